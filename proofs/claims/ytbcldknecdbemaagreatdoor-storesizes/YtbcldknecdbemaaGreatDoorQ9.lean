/-
  Contracts, joined (ShaG ShaH ShaJ ShaI ShaK ShaLaid).
-/
import Derived.Test.YtbcldknecdbemaaGreatDoorQ8
import Derived.Maps.AppendAt
import Derived.Maps.Range
import Derived.Deep.AppendLies
import Derived.Deep.LoopGhost
import Derived.LaidMore
import Derived.Lib.LaidTab
import Derived.ProofKit
import Derived.Stop.Joined

/-
  Contracts of sha's State: New, put, Write, Clone, Len, Sum, and of sha.Sum and sha.digest. Conditions: the table keys holds the document's numbers; the state lies in a block of its own.
-/
namespace Go.Proofs.YtbcldknecdbemaaGreatDoor
open Go.RowKit
set_option linter.unusedVariables false
set_option maxRecDepth 20000

/-- Nothing that was there has turned but block b. -/
abbrev But (b : Nat) (w w' : World) : Prop := w.grownBy w' (some b)
section
variable {b b' : Nat} {w w' w'' : World} {vs : List Value}
theorem But.refl (b : Nat) (w : World) : But b w w := World.grownBy.refl w _
theorem But.of_grows (h : Grows w w') : But b w w' := ⟨h.os, h.tape, h.output, h.size, fun i hi _ => h.block i hi⟩
theorem But.of_set (w : World) (b o : Nat) (u : Value) : But b w (w.setCell ⟨b, o, none⟩ u) :=
  ⟨rfl, rfl, rfl, by simp [World.setCell], fun i hi hne => Below.heap_setCell w _ u i (fun e => hne (by rw [e]))⟩
theorem But.setCells (b : Nat) : ∀ (vs : List Value) (o : Nat) (w : World), But b w (w.setCells b o vs)
  | [], _, w => But.refl b w
  | v :: r, o, w => World.grownBy.trans (But.of_set w b o v) (But.setCells b r (o + 1) _)
theorem Has.but (h : Has w b' vs) (hb : But b w w') (hne : b' ≠ b) : Has w' b' vs :=
  ⟨Nat.lt_of_lt_of_le h.lt hb.size, fun j u hu => hb.cell (h.cells j u hu) (fun e => hne (Option.some.inj e)), fun j => (hb.frozen_far ⟨b', j, none⟩ h.lt (fun e => hne (Option.some.inj e))).trans (h.free j)⟩
theorem Keys.but (h : Keys w) (hb : But b w w') (hne : 1 < b) : Keys w' := fun j u hu => hb.cell (h j u hu) (fun e => absurd (Option.some.inj e) (by show 1 ≠ b; omega))
theorem Lies.but {A : Option Addr} (h : Lies w b A vs) (hb : But b w w') : Lies w' b A vs := fun j u hu => by
  obtain ⟨ad, e, hlt, hc⟩ := h j u hu
  exact ⟨ad, e, hlt, hb.cell hc (fun e => by rw [add_block] at e; have := Option.some.inj e; omega)⟩
end

theorem state_size : (Tryz.prog.info? 173).map (·.size) = some 73 := by kernel_rfl
theorem v8_len (v : V8) : v.list.length = 8 := rfl
theorem uv8_len (v : V8) : (v.list.map uv).length = 8 := rfl

/-- The state in block b: the words v, the last bytes blk, n bytes in all. -/
structure St (w : World) (b : Nat) (v : V8) (blk : List UInt8) (n : Nat) : Prop where
  has : Has w b (v.list.map uv ++ (blk.map bv ++ [.int .i64 (n : Int)]))
  blen : blk.length = 64
section
variable {b n : Nat} {w w' : World} {v : V8} {blk : List UInt8}
theorem St.words (h : St w b v blk n) : w.rangeAt b 0 (v.list.map uv) := h.has.part 0 (fun j u hu => by
  rw [Nat.zero_add, List.getElem?_append_left (List.getElem?_eq_some_iff.1 hu).1]; exact hu)
theorem St.block (h : St w b v blk n) : w.rangeAt b 8 (blk.map bv) := h.has.part 8 (fun j u hu => by
  rw [List.getElem?_append_right (by rw [uv8_len]; omega), uv8_len, Nat.add_sub_cancel_left, List.getElem?_append_left (List.getElem?_eq_some_iff.1 hu).1]; exact hu)
theorem St.size (h : St w b v blk n) : w.cell? ⟨b, 72, none⟩ = some (.int .i64 (n : Int)) := h.has.cell (by
  rw [List.getElem?_append_right (by rw [uv8_len]; omega), uv8_len, List.getElem?_append_right (by rw [List.length_map, h.blen]; omega), List.length_map, h.blen]; rfl)
theorem St.setSize (h : St w b v blk n) (m : Nat) : St (w.setCell ⟨b, 72, none⟩ (.int .i64 (m : Int))) b v blk m := by
  refine ⟨?_, h.blen⟩
  have := h.has.set_ (k := 72) (by simp [v8_len, h.blen]) (.int .i64 (m : Int))
  rwa [List.set_append_right _ _ (by rw [uv8_len]; omega), uv8_len, List.set_append_right _ _ (by rw [List.length_map, h.blen]; omega), List.length_map, h.blen] at this
theorem St.setByte (h : St w b v blk n) (k : Nat) (hk : k < 64) (c : UInt8) : St (w.setCell ⟨b, 8 + k, none⟩ (bv c)) b v (blk.set k c) n := by
  refine ⟨?_, by rw [List.length_set]; exact h.blen⟩
  have := h.has.set_ (k := 8 + k) (by simp [v8_len, h.blen]; omega) (bv c)
  rwa [List.set_append_right _ _ (by rw [uv8_len]; omega), uv8_len, Nat.add_sub_cancel_left, List.set_append_left _ _ (by rw [List.length_map, h.blen]; exact hk), ← List.map_set] at this
theorem St.setWords (h : St w b v blk n) (v' : V8) : St (w.setCells b 0 (v'.list.map uv)) b v' blk n := by
  have ht : w.there b 0 (v'.list.map uv).length := by
    have := there_of h.words h.has.free
    rwa [uv8_len] at this
  refine ⟨⟨by rw [size_setCells]; exact h.has.lt, ?_, fun j => by rw [World.frozen?_setCells]; exact h.has.free j⟩, h.blen⟩
  intro j u hu
  rcases Nat.lt_or_ge j 8 with hj | hj
  · rw [List.getElem?_append_left (by rw [uv8_len]; exact hj)] at hu
    exact World.rangeAt_setCells_same w b 0 _ ht j u hu
  · have h1 : (v.list.map uv ++ (blk.map bv ++ [.int .i64 (n : Int)]))[j]? = some u := by
      rw [List.getElem?_append_right (by rw [uv8_len]; exact hj), uv8_len] at hu ⊢
      exact hu
    rw [World.cell?_setCells_out b _ 0 w ⟨b, 0 + j, none⟩ (fun _ _ => .inr (by rw [uv8_len]; show 0 + 8 ≤ 0 + j; omega))]
    exact h.has.cells j u h1
theorem St.later (h : St w b v blk n) (hg : Grows w w') : St w' b v blk n := ⟨h.has.later hg, h.blen⟩
theorem St.but {b' : Nat} (h : St w b v blk n) (hb : But b' w w') (hne : b ≠ b') : St w' b v blk n := ⟨h.has.but hb hne, h.blen⟩
end

/-- The state in block b holds the bytes l. -/
def Hold (w : World) (b : Nat) (l : List UInt8) : Prop := ∃ blk, St w b (through l (l.length / 64)) blk l.length ∧ blk.take (l.length % 64) = l.drop (64 * (l.length / 64))
theorem Hold.later {w w' : World} {b : Nat} {l : List UInt8} (h : Hold w b l) (hg : Grows w w') : Hold w' b l := h.imp fun _ ⟨h1, h2⟩ => ⟨h1.later hg, h2⟩
theorem Hold.but {w w' : World} {b b' : Nat} {l : List UInt8} (h : Hold w b l) (hb : But b' w w') (hne : b ≠ b') : Hold w' b l := h.imp fun _ ⟨h1, h2⟩ => ⟨h1.but hb hne, h2⟩

/-- The last byte fills the block. -/
theorem fill_full {l blk : List UInt8} {c : UInt8} (hb : blk.length = 64) (hp : blk.take (l.length % 64) = l.drop (64 * (l.length / 64))) (h : (l.length + 1) % 64 = 0) :
    through (l ++ [c]) ((l ++ [c]).length / 64) = mix (through l (l.length / 64)) (blk.set (l.length % 64) c) ∧ (l ++ [c]).length % 64 = 0 ∧ (l ++ [c]).drop (64 * ((l ++ [c]).length / 64)) = [] := by
  have e1 : (l ++ [c]).length = l.length + 1 := by simp
  have e2 : (l.length + 1) / 64 = l.length / 64 + 1 := by omega
  rw [e1, e2]
  refine ⟨?_, h, List.drop_of_length_le (by rw [e1]; omega)⟩
  rw [through, through_append l [c] _ (by omega)]
  congr 1
  have h63 : l.length % 64 = 63 := by omega
  rw [h63] at hp ⊢
  rw [List.drop_append_of_le_length (by omega), ← hp]
  apply List.ext_getElem?
  intro i
  rcases Nat.lt_or_ge i 63 with hi | hi
  · rw [List.getElem?_take, if_pos (by omega), List.getElem?_append_left (by simp [hb]; omega), List.getElem?_take, if_pos hi, List.getElem?_set_ne (by omega)]
  · rcases Nat.lt_or_ge 63 i with hi' | hi'
    · rw [List.getElem?_eq_none (by simp [hb]; omega), List.getElem?_eq_none (by simp [hb]; omega)]
    · obtain rfl : i = 63 := by omega
      rw [List.getElem?_take, if_pos (by omega), List.getElem?_append_right (by simp [hb]), List.getElem?_set_self (by omega)]
      simp [hb]
theorem fill_part {l blk : List UInt8} {c : UInt8} (hb : blk.length = 64) (hp : blk.take (l.length % 64) = l.drop (64 * (l.length / 64))) (h : (l.length + 1) % 64 ≠ 0) :
    through (l ++ [c]) ((l ++ [c]).length / 64) = through l (l.length / 64) ∧ (blk.set (l.length % 64) c).take ((l ++ [c]).length % 64) = (l ++ [c]).drop (64 * ((l ++ [c]).length / 64)) := by
  have e1 : (l ++ [c]).length = l.length + 1 := by simp
  have e2 : (l.length + 1) / 64 = l.length / 64 := by omega
  have e3 : (l.length + 1) % 64 = l.length % 64 + 1 := by omega
  rw [e1, e2, e3]
  refine ⟨through_append l [c] _ (by omega), ?_⟩
  rw [List.drop_append_of_le_length (by omega), ← hp, List.take_succ_eq_append_getElem (by rw [List.length_set, hb]; omega)]
  simp
  rw [List.take_set, List.set_eq_of_length_le (by simp; omega)]
end Go.Proofs.YtbcldknecdbemaaGreatDoor

/-
  Contracts of sha's State, by the memory's own words: put, New, Clone, Len, Write.
-/
namespace Go.Proofs.YtbcldknecdbemaaGreatDoor
open Go.RowKit
set_option linter.unusedVariables false
set_option maxRecDepth 20000

set_option maxRecDepth 100000 in
set_option maxHeartbeats 1000000 in
theorem put_any (b : Nat) (l : List UInt8) (c : UInt8) (w : World) (hk : Keys w) (hb0 : 1 < b) (hh : Hold w b l) (hn : l.length ≤ 1000000000) :
    Calls Tryz.prog 132 #[.pointer (some ⟨b, 0, none⟩), .int .u8 (c.toNat : Int)] w fun e w' => e = .returned (.tuple #[]) ∧ Hold w' b (l ++ [c]) ∧ But b w w' := by
  obtain ⟨blk, hst, hp⟩ := hh
  have hv := through_ok l (l.length / 64)
  have f1 : (l.length + 1) % 64 = 0 → _ := fun h => fill_full (c := c) hst.blen hp h
  have f2 : (l.length + 1) % 64 ≠ 0 → _ := fun h => fill_part (c := c) hst.blen hp h
  have hlen : (l ++ [c]).length = l.length + 1 := by simp
  have HF1 := Lib.hid f1
  have HF2 := Lib.hid f2
  have HLEN := Lib.hid hlen
  clear f1 f2 hlen hp
  generalize through l (l.length / 64) = v at *
  generalize l.length = n at *
  have hsz := hst.size
  have hbl := hst.blen
  have hm64 : n % 64 < 64 := by omega
  have tm : (n : Int).tmod 64 = ((n % 64 : Nat) : Int) := by rw [Int.tmod_eq_emod_of_nonneg (by omega)]; rfl
  generalize n % 64 = m at *
  have HST := Lib.hid hst
  have HK := Lib.hid hk
  clear hst hk
  have n2 : (m : Int) < 64 := by omega
  go_enter Tryz.func132, Tryz.ntmps132
  go_wp2_with fail
  refine wp_region_ord 10 [(0, true), (1, true), (2, true), (3, true), (4, true), (5, true), (6, true), (7, true), (8, true), (9, true)] (by kernel_rfl) (by kernel_rfl) ?_
  have f0 : ∀ u, Grows w.drew u → u.cell? ⟨b, 72, none⟩ = some (.int .i64 (n : Int)) := fun u h => hcell_later (a := w.drew) hsz h
  have hO := Grows.refl w.drew
  repeat (first | (refine ord_take hO _ ?_ (by simp only [List.getElem?_cons_succ, List.getElem?_cons_zero]; rfl) (by rfl) ?_ ?_; rotate_left; (· (intro u hu0 hu; (try go_simp); (try with_reducible rfl))); try simp only [Act.put, List.setIfInBounds_toArray, List.set_cons_zero, List.set_cons_succ]) | (refine ord_skip _ (by simp only [List.getElem?_cons_succ, List.getElem?_cons_zero]; rfl) (by rfl) ?_; try simp only [Act.put, List.setIfInBounds_toArray, List.set_cons_zero, List.set_cons_succ]))
  clear f0 hO tm
  (refine ord_done (fun u hu => ?_); simp only [List.drop_succ_cons, List.drop_zero])
  have hstu := HST.out.later (w' := u) (Grows.trans ((Grows.refl w).drew) hu)
  have hku := HK.out.later (w' := u) (Grows.trans ((Grows.refl w).drew) hu)
  have hbu : But b w u := But.of_grows (Grows.trans ((Grows.refl w).drew) hu)
  have hset := hstu.setByte m hm64 c
  have hbut := hbu.trans (But.of_set u b (8 + m) (bv c))
  have hks := hku.but (But.of_set u b (8 + m) (bv c)) hb0
  have hfr := hstu.has.free (8 + m)
  obtain ⟨y, hy⟩ : ∃ y, (blk.map bv)[m]? = some y := ⟨_, List.getElem?_eq_getElem (by rw [List.length_map, hbl]; exact hm64)⟩
  have hcy := range_cell hstu.block hy
  clear hy hsz
  generalize hw1 : u.setCell ⟨b, 8 + m, none⟩ (bv c) = w1 at *
  have HW1 := Lib.hid hw1
  clear hw1
  go_wp2_with fail
  refine NoPanic.normal ?_
  change Exit.then _ _ _ _ (u.setCell ⟨b, 8 + m, none⟩ (bv c))
  rw [HW1.out]
  have hs1 := hset.size
  have hst2 : St (w1.setCell ⟨b, 72, none⟩ (.int .i64 ((n : Int) + 1))) b v (blk.set m c) (n + 1) := hset.setSize (n + 1)
  have hbut2 : But b w (w1.setCell ⟨b, 72, none⟩ (.int .i64 ((n : Int) + 1))) := hbut.trans (But.of_set w1 b 72 _)
  have hk2 : Keys (w1.setCell ⟨b, 72, none⟩ (.int .i64 ((n : Int) + 1))) := hks.but (But.of_set w1 b 72 _) hb0
  have hfr1 := hset.has.free 72
  have hbl' : (blk.set m c).length = 64 := hset.blen
  have HHS := Lib.hid hst2
  have HBU := Lib.hid hbut2
  have HKS := Lib.hid hk2
  clear hset hbut hks hstu hku hbu hfr hcy hst2 hbut2 hk2 hu
  generalize blk.set m c = bk at *
  by_cases hfull : (n + 1) % 64 = 0
  · have o1 : (((n : Int) + 1) % 64 == 0) = true := by simp; omega
    obtain ⟨g1, g2, g3⟩ := HF1.out hfull
    have G1 := Lib.hid g1
    have G2 := Lib.hid g2
    have G3 := Lib.hid g3
    clear g1 g2 g3
    go_wp2_with fail
    generalize w1.setCell ⟨b, 72, none⟩ (.int .i64 ((n : Int) + 1)) = w2 at *
    refine wp_region_ord 13 [(0, true), (1, true), (2, true), (3, true), (4, true), (5, true), (6, true), (7, true), (8, true), (9, true), (10, true), (11, true), (12, true)] (by kernel_rfl) (by kernel_rfl) ?_
    have hgd : Grows w2 w2.drew := (Grows.refl w2).drew
    have ldW : ∀ u, Grows w2.drew u → (Instr.loadAt 170 (.pointer (some ⟨b, 0, none⟩))).run Tryz.prog u = .ok (.agg (v.list.map uv).toArray) u := fun u h =>
      range_load (HHS.out.later (Grows.trans hgd h)).words Tryz.underlying170 rfl arr8_size
    have ldB : ∀ u, Grows w2.drew u → (Instr.loadAt 171 (.pointer (some ⟨b, 8, none⟩))).run Tryz.prog u = .ok (.agg (bk.map bv).toArray) u := fun u h =>
      range_load (HHS.out.later (Grows.trans hgd h)).block Tryz.underlying171 rfl (by rw [List.length_map, hbl']; exact blk64_size)
    have hky : ∀ u, Grows w2.drew u → Keys u := fun u h => HKS.out.later (Grows.trans hgd h)
    have HKY := Lib.hid hky
    have HGD := Lib.hid hgd
    have HBL := Lib.hid hbl'
    have hO := Grows.refl w2.drew
    clear hky hgd hs1 hfr1 o1 hbl'
    repeat (first | (refine ord_load hO _ _ (by simp only [List.getElem?_cons_succ, List.getElem?_cons_zero]; rfl) (by rfl) 170 (.tmp 30) (by rfl) _ (by rfl) ldW ?_; try simp only [Act.put, List.setIfInBounds_toArray, List.set_cons_zero, List.set_cons_succ]) | (refine ord_load hO _ _ (by simp only [List.getElem?_cons_succ, List.getElem?_cons_zero]; rfl) (by rfl) 171 (.tmp 34) (by rfl) _ (by rfl) ldB ?_; try simp only [Act.put, List.setIfInBounds_toArray, List.set_cons_zero, List.set_cons_succ]) | (refine ord_take hO _ ?_ (by simp only [List.getElem?_cons_succ, List.getElem?_cons_zero]; rfl) (by rfl) ?_ ?_; rotate_left; (· (intro u hu0 hu; (try go_simp); (try with_reducible rfl))); try simp only [Act.put, List.setIfInBounds_toArray, List.set_cons_zero, List.set_cons_succ]) | (refine ord_skip _ (by simp only [List.getElem?_cons_succ, List.getElem?_cons_zero]; rfl) (by rfl) ?_; try simp only [Act.put, List.setIfInBounds_toArray, List.set_cons_zero, List.set_cons_succ]) | (refine ord_call hO _ ?_ (by simp only [List.getElem?_cons_succ, List.getElem?_cons_zero]; rfl) (by rfl) ?_ ?_; rotate_left; (· (intro u hu0 hu; go_simp; (try refine quiet_enter ?_); (first | exact spread_any bk u HBL.out | exact mixed_any v (spreadL bk) u hv (spreadL_len bk) (HKY.out u hu0)))); try simp only [Act.put, List.setIfInBounds_toArray, List.set_cons_zero, List.set_cons_succ]))
    clear ldW ldB hO
    (refine ord_done (fun u hu => ?_); simp only [List.drop_succ_cons, List.drop_zero])
    have hgu := Grows.trans HGD.out hu
    have hstu := HHS.out.later hgu
    have hset := hstu.setWords (mix v bk)
    have hbut := (HBU.out.trans (But.of_grows hgu)).trans (But.setCells b ((mix v bk).list.map uv) 0 u)
    have ht : u.there b 0 8 := there_of hstu.words hstu.has.free
    go_wp2_with (refine wpList_store_mid rfl 170 (.tmp 39) (.tmp 37) rfl b 0 ((mix v bk).list.map uv).toArray rfl rfl ht arr8_size (all_oneCell_toArray (uv_one _)) ?_)
    refine NoPanic.normal ?_
    go_wp2_with fail
    go_end0
    refine ⟨rfl, ⟨bk, ?_, ?_⟩, hbut⟩
    · rw [G1.out, HLEN.out]
      exact hset
    · rw [G2.out, G3.out, List.take_zero]
  · have o1 : (((n : Int) + 1) % 64 == 0) = false := by simp; omega
    obtain ⟨g1, g2⟩ := HF2.out hfull
    have G1 := Lib.hid g1
    have G2 := Lib.hid g2
    clear g1 g2
    go_wp2_with fail
    go_end0
    refine ⟨rfl, ⟨bk, ?_, G2.out⟩, HBU.out⟩
    rw [G1.out, HLEN.out]
    exact HHS.out
end Go.Proofs.YtbcldknecdbemaaGreatDoor

/-
  Contracts of sha's State: New, Clone, Len, Write.
-/
namespace Go.Proofs.YtbcldknecdbemaaGreatDoor
open Go.RowKit
set_option linter.unusedVariables false
set_option maxRecDepth 20000

set_option maxRecDepth 100000 in
theorem zero_state (w : World) : (zeroValue 173).run Tryz.prog w = .ok (.agg #[.int .u32 0, .int .u32 0, .int .u32 0, .int .u32 0, .int .u32 0, .int .u32 0, .int .u32 0, .int .u32 0, .int .u8 0, .int .u8 0, .int .u8 0, .int .u8 0, .int .u8 0, .int .u8 0, .int .u8 0, .int .u8 0, .int .u8 0, .int .u8 0, .int .u8 0, .int .u8 0, .int .u8 0, .int .u8 0, .int .u8 0, .int .u8 0, .int .u8 0, .int .u8 0, .int .u8 0, .int .u8 0, .int .u8 0, .int .u8 0, .int .u8 0, .int .u8 0, .int .u8 0, .int .u8 0, .int .u8 0, .int .u8 0, .int .u8 0, .int .u8 0, .int .u8 0, .int .u8 0, .int .u8 0, .int .u8 0, .int .u8 0, .int .u8 0, .int .u8 0, .int .u8 0, .int .u8 0, .int .u8 0, .int .u8 0, .int .u8 0, .int .u8 0, .int .u8 0, .int .u8 0, .int .u8 0, .int .u8 0, .int .u8 0, .int .u8 0, .int .u8 0, .int .u8 0, .int .u8 0, .int .u8 0, .int .u8 0, .int .u8 0, .int .u8 0, .int .u8 0, .int .u8 0, .int .u8 0, .int .u8 0, .int .u8 0, .int .u8 0, .int .u8 0, .int .u8 0, .int .i64 0]) w := by kernel_rfl

set_option maxRecDepth 100000 in
set_option maxHeartbeats 1000000 in
theorem new_any (w : World) : Calls Tryz.prog 93 #[] w fun e w' => e = .returned (.pointer (some ⟨w.heap.size, 0, none⟩)) ∧ Hold w' w.heap.size [] ∧ Grows w w' := by
  have hN := Has.new w 173 (start8.list.map uv ++ ((List.replicate 64 (0 : UInt8)).map bv ++ [Value.int .i64 ((0 : Nat) : Int)]))
  have hg := grows_alloc w (.cells (start8.list.map uv ++ ((List.replicate 64 (0 : UInt8)).map bv ++ [Value.int .i64 ((0 : Nat) : Int)])).toArray 173)
  have hz := zero_state
  go_enter Tryz.func93, Tryz.ntmps93
  go_wp2
  go_ret
  exact ⟨rfl, ⟨_, ⟨hN, rfl⟩, rfl⟩, hg⟩

set_option maxRecDepth 100000 in
set_option maxHeartbeats 1000000 in
theorem sclone_any (b : Nat) (l : List UInt8) (w : World) (hh : Hold w b l) :
    Calls Tryz.prog 133 #[.pointer (some ⟨b, 0, none⟩)] w fun e w' => e = .returned (.pointer (some ⟨w.heap.size, 0, none⟩)) ∧ Hold w' w.heap.size l ∧ Grows w w' := by
  obtain ⟨blk, hst, hp⟩ := hh
  have hn : (((through l (l.length / 64)).list.map uv ++ (blk.map bv ++ [Value.int .i64 (l.length : Int)]))).length = 73 := by simp [v8_len, hst.blen]
  have hld := hst.has.load Tryz.underlying173 rfl (by rw [hn]; exact state_size)
  have h1 : ∀ u ∈ ((through l (l.length / 64)).list.map uv ++ (blk.map bv ++ [Value.int .i64 (l.length : Int)])), u.oneCell' = true := fun u hu => by
    rcases List.mem_append.1 hu with h | h
    · exact uv_one _ u h
    · rcases List.mem_append.1 h with h | h
      · exact bv_one _ u h
      · obtain rfl := List.mem_singleton.1 h; rfl
  have hbl := hst.blen
  have HST : ∀ w', Has w' w.heap.size ((through l (l.length / 64)).list.map uv ++ (blk.map bv ++ [Value.int .i64 (l.length : Int)])) → Hold w' w.heap.size l := fun w' h => ⟨blk, ⟨h, hbl⟩, hp⟩
  have HH := Lib.hid HST
  have HN := Lib.hid hn
  clear HST hn hst hp hbl
  generalize (through l (l.length / 64)).list.map uv ++ (blk.map bv ++ [Value.int .i64 (l.length : Int)]) = cs at *
  have hN := Has.new w 173 ((List.replicate 8 0).map uv ++ ((List.replicate 64 (0 : UInt8)).map bv ++ [Value.int .i64 0]))
  have hg := grows_alloc w (.cells ((List.replicate 8 0).map uv ++ ((List.replicate 64 (0 : UInt8)).map bv ++ [Value.int .i64 0])).toArray 173)
  have hz := zero_state
  go_enter Tryz.func133, Tryz.ntmps133
  go_wp2_with (first | (with_reducible refine wpList_loads rfl 173 (.tmp 5) rfl _ rfl _ hld ?_) | (refine wpList_storev rfl 173 (.tmp 3) (.tmp 6) rfl w.heap.size ((List.replicate 8 0).map uv ++ ((List.replicate 64 (0 : UInt8)).map bv ++ [Value.int .i64 0])) cs 73 rfl rfl hN rfl HN.out state_size h1 ?_; intro w6 hbox6 hbel6))
  go_ret
  exact ⟨rfl, HH.out _ hbox6, hbel6 _ _ (Nat.le_refl _) hg⟩

/-- The cells vs lie at A, in no cell of block b. -/
def Off (w : World) (b : Nat) (A : Option Addr) (vs : List Value) : Prop := ∀ j u, vs[j]? = some u → ∃ ad, A = some ad ∧ ad.block ≠ b ∧ w.cell? (ad.add j) = some u
theorem Off.but {w w' : World} {b : Nat} {A : Option Addr} {vs : List Value} (h : Off w b A vs) (hb : But b w w') : Off w' b A vs := fun j u hu => by
  obtain ⟨ad, e, hne, hc⟩ := h j u hu
  exact ⟨ad, e, hne, hb.cell hc (fun e => by rw [add_block] at e; exact hne (Option.some.inj e))⟩

set_option maxRecDepth 100000 in
set_option maxHeartbeats 1000000 in
theorem write_any (b : Nat) (l : List UInt8) (A : Option Addr) (n c : Nat) (bs : List UInt8) (w : World) (hk : Keys w) (hb0 : 1 < b) (hh : Hold w b l) (hl : bs.length = n) (hr : Off w b A (bs.map bv)) (hn : l.length + n ≤ 1000000) :
    Calls Tryz.prog 94 #[.pointer (some ⟨b, 0, none⟩), .slice A n c] w fun e w' => e = .returned (.tuple #[]) ∧ Hold w' b (l ++ bs) ∧ But b w w' := by
  have HL := Lib.hid hl
  have HK := Lib.hid hk
  have HR := Lib.hid hr
  clear hl hk hr
  go_enter Tryz.func94, Tryz.ntmps94
  go_wp2_with fail
  go_loopw [8] (fun i wr => ∃ k : Nat, k ≤ n ∧ i = .int .i64 k ∧ Hold wr b (l ++ bs.take k) ∧ But b w wr) (fun i _ => n - (intOf i).toNat)
  case atStart => exact ⟨0, Nat.zero_le _, rfl, by simpa using hh, But.refl _ _⟩
  case round =>
    clear hh
    obtain ⟨k, hk, rfl, hhold, hbut⟩ := hrel
    by_cases hlt : k < n
    · obtain ⟨x, hx⟩ : ∃ x, bs[k]? = some x := ⟨_, List.getElem?_eq_getElem (by rw [HL.out]; exact hlt)⟩
      obtain ⟨ad, rfl, hne, hcell⟩ := HR.out.but hbut k (bv x) (by rw [List.getElem?_map, hx]; rfl)
      have HX := Lib.hid (show l ++ bs.take (k + 1) = l ++ bs.take k ++ [x] by rw [List.take_add_one, hx, List.append_assoc]; rfl)
      have HLEN : Hid ((l ++ bs.take k).length ≤ 1000000000) := by show _ ≤ _; rw [List.length_append, List.length_take]; omega
      clear hx
      have HH := Lib.hid hhold
      have HB := Lib.hid hbut
      clear hhold hbut
      go_wp2_with fail
      refine (put_any b (l ++ bs.take k) x wr (HK.out.but HB.out hb0) hb0 HH.out HLEN.out).mono ?_
      rintro e w2 ⟨rfl, hh2, hb2⟩
      rw [← HX.out] at hh2
      have hb2' := HB.out.trans hb2
      clear hb2
      go_wp2_with fail
      go_roundw
      case rel => exact ⟨k + 1, by omega, by go_num, hh2, hb2'⟩
      case measure => simp [intOf]; omega
    · obtain rfl : k = n := by omega
      rw [List.take_of_length_le (by rw [HL.out]; omega)] at hhold
      go_wp2_with fail
      go_end0
      exact ⟨rfl, hhold, hbut⟩
end Go.Proofs.YtbcldknecdbemaaGreatDoor

/-
  Contract of sha.digest: the words' bytes.
-/
namespace Go.Proofs.YtbcldknecdbemaaGreatDoor
open Go.RowKit
set_option linter.unusedVariables false
set_option maxRecDepth 20000

theorem four_at (v : V8) (k : Nat) (hk : k < 8) :
    (bytesOf v)[4 * k]? = some (UInt8.ofNat (v.list.getD k 0 / 16777216 % 256)) ∧ (bytesOf v)[4 * k + 1]? = some (UInt8.ofNat (v.list.getD k 0 / 65536 % 256)) ∧
    (bytesOf v)[4 * k + 2]? = some (UInt8.ofNat (v.list.getD k 0 / 256 % 256)) ∧ (bytesOf v)[4 * k + 3]? = some (UInt8.ofNat (v.list.getD k 0 % 256)) := by
  match k, hk with
  | 0, _ => simp [bytesOf, V8.list, four]
  | 1, _ => simp [bytesOf, V8.list, four]
  | 2, _ => simp [bytesOf, V8.list, four]
  | 3, _ => simp [bytesOf, V8.list, four]
  | 4, _ => simp [bytesOf, V8.list, four]
  | 5, _ => simp [bytesOf, V8.list, four]
  | 6, _ => simp [bytesOf, V8.list, four]
  | 7, _ => simp [bytesOf, V8.list, four]
theorem byte_of (x : Nat) : bv (UInt8.ofNat (x % 256)) = .int .u8 ((x : Int) % 256) := by
  have : (UInt8.ofNat (x % 256)).toNat = x % 256 := by simp
  simp only [bv, this]
  congr 1

set_option maxRecDepth 100000 in
set_option maxHeartbeats 1000000 in
theorem digest_of (v : V8) (w : World) (hv : v.Ok) :
    Calls Tryz.prog 134 #[.agg (v.list.map uv).toArray] w fun e w' => e = .returned (dv (bytesOf v)) ∧ Grows w w' := by
  obtain ⟨hA, hR, hD, hg⟩ := three w (v.list.map uv) (zeros32.map bv) (zeros32.map bv) 170 46 46
  have hld := hA.load Tryz.underlying170 rfl arr8_size
  have hix := run_index_words (P := Tryz.prog) Tryz.underlying170 Tryz.underlying100 u32_one v.list rfl
  have h4 := four_at v
  have hVb : ∀ x ∈ v.list, x < 4294967296 := by
    intro x hx
    simp only [V8.list, List.mem_cons, List.not_mem_nil, or_false] at hx
    obtain ⟨a1, a2, a3, a4, a5, a6, a7, a8⟩ := hv
    rcases hx with rfl | rfl | rfl | rfl | rfl | rfl | rfl | rfl <;> assumption
  have HIX := Lib.hid hix
  have H4 := Lib.hid h4
  have HVB := Lib.hid hVb
  clear hix h4 hVb
  go_enter Tryz.func134, Tryz.ntmps134
  go_wp2_with (with_reducible refine wpList_loads rfl 170 (.tmp 1) rfl _ rfl _ hld ?_)
  change Code.wp _ _ _ _ (((w.alloc (.cells (v.list.map uv).toArray 170)).alloc (.cells (zeros32.map bv).toArray 46)).alloc (.cells (zeros32.map bv).toArray 46))
  generalize ((w.alloc (.cells (v.list.map uv).toArray 170)).alloc (.cells (zeros32.map bv).toArray 46)).alloc (.cells (zeros32.map bv).toArray 46) = w3 at *
  have l01 : w.heap.size < w.heap.size + 1 + 1 := by omega
  have l12 : w.heap.size + 1 < w.heap.size + 1 + 1 := by omega
  generalize w.heap.size + 1 + 1 = b2 at *
  have l1 : w.heap.size ≤ w.heap.size + 1 := by omega
  generalize w.heap.size + 1 = b1 at *
  have hzl := zeros32_len
  have hdl := bytesOf_len v
  have HDG := Lib.hid (show bytesOf v = bytesOf v from rfl)
  generalize zeros32 = zs at *
  obtain ⟨dg, hdg⟩ : ∃ dg, dg = bytesOf v := ⟨_, rfl⟩
  rw [← hdg] at hdl H4
  have HZL := Lib.hid hzl
  have HDL := Lib.hid hdl
  have HDE := Lib.hid hdg
  clear hzl hdl hdg hA hld
  generalize v.list = vl at *
  go_loopw [7] (fun i wr => ∃ k : Nat, k ≤ 8 ∧ i = .int .i64 k ∧ Has wr b2 ((dg.take (4 * k) ++ zs.drop (4 * k)).map bv) ∧ Below b2 w3 wr) (fun i _ => 8 - (intOf i).toNat)
  case atStart => exact ⟨0, Nat.zero_le _, rfl, by simpa using hD, Below.refl _ _⟩
  case round =>
    clear hD
    obtain ⟨k, hk, rfl, hhas, hbel⟩ := hrel
    by_cases hlt : k < 8
    · have hix := HIX.out k hlt
      have hxb := getD_lt HVB.out (by omega) k
      obtain ⟨a0, a1, a2, a3⟩ := H4.out k hlt
      generalize vl.getD k 0 = x at *
      have s0 := hhas.set_ (k := 4 * k) (by simp [HDL.out, HZL.out]; omega) (bv (UInt8.ofNat (x / 16777216 % 256)))
      rw [← List.map_set, mid_set dg zs _ _ a0 (by rw [HZL.out]; omega)] at s0
      have s1 := s0.set_ (k := 4 * k + 1) (by simp [HDL.out, HZL.out]; omega) (bv (UInt8.ofNat (x / 65536 % 256)))
      rw [← List.map_set, mid_set dg zs _ _ a1 (by rw [HZL.out]; omega)] at s1
      have s2 := s1.set_ (k := 4 * k + 2) (by simp [HDL.out, HZL.out]; omega) (bv (UInt8.ofNat (x / 256 % 256)))
      rw [← List.map_set, mid_set dg zs _ _ a2 (by rw [HZL.out]; omega)] at s2
      have s3 := s2.set_ (k := 4 * k + 3) (by simp [HDL.out, HZL.out]; omega) (bv (UInt8.ofNat (x % 256)))
      rw [← List.map_set, mid_set dg zs _ _ a3 (by rw [HZL.out]; omega)] at s3
      have hbs := (((hbel.setCell (p := ⟨b2, 4 * k, none⟩) (Nat.le_refl _) (bv (UInt8.ofNat (x / 16777216 % 256)))).setCell (p := ⟨b2, 4 * k + 1, none⟩) (Nat.le_refl _) (bv (UInt8.ofNat (x / 65536 % 256)))).setCell (p := ⟨b2, 4 * k + 2, none⟩) (Nat.le_refl _) (bv (UInt8.ofNat (x / 256 % 256)))).setCell (p := ⟨b2, 4 * k + 3, none⟩) (Nat.le_refl _) (bv (UInt8.ofNat (x % 256)))
      have f0 := hhas.free (4 * k)
      have f1 := hhas.free (4 * k + 1)
      have f2 := hhas.free (4 * k + 2)
      have f3 := hhas.free (4 * k + 3)
      have hex : ∀ j, j < 32 → ∃ y, wr.cell? ⟨b2, j, none⟩ = some y := fun j hj => by
        obtain ⟨y, hy⟩ : ∃ y, ((dg.take (4 * k) ++ zs.drop (4 * k)).map bv)[j]? = some y := ⟨_, List.getElem?_eq_getElem (by simp [HDL.out, HZL.out]; omega)⟩
        exact ⟨y, hhas.cell hy⟩
      obtain ⟨y0, c0⟩ := hex (4 * k) (by omega)
      obtain ⟨y1, c1⟩ := hex (4 * k + 1) (by omega)
      obtain ⟨y2, c2⟩ := hex (4 * k + 2) (by omega)
      obtain ⟨y3, c3⟩ := hex (4 * k + 3) (by omega)
      have e0 : bv (UInt8.ofNat (x / 16777216 % 256)) = .int .u8 ((x : Int) / 16777216) := by rw [byte_of]; congr 1; omega
      have e1 : bv (UInt8.ofNat (x / 65536 % 256)) = .int .u8 ((x : Int) / 65536 % 256) := by rw [byte_of]; congr 1
      have e2 : bv (UInt8.ofNat (x / 256 % 256)) = .int .u8 ((x : Int) / 256 % 256) := by rw [byte_of]; congr 1
      have e3 := byte_of x
      rw [e0, e1, e2, e3] at s3 hbs
      have S3 := Lib.hid s3
      have HBS := Lib.hid hbs
      clear s0 s1 s2 s3 hbs hex e0 e1 e2 e3 hhas hbel a0 a1 a2 a3
      have k0 : (k : Int) < 8 := by omega
      go_wp2_with fail
      exact ⟨⟨k + 1, by omega, by go_num, S3.out, HBS.out⟩, by simp [intOf]; omega⟩
    · obtain rfl : k = 8 := by omega
      rw [List.take_of_length_le (by rw [HDL.out]; omega), List.drop_of_length_le (by rw [HZL.out]; omega), List.append_nil] at hhas
      have hld := hhas.load Tryz.underlying46 rfl (by rw [List.length_map, HDL.out]; exact dig_size2)
      have hRb := hR.below hbel l12
      go_wp2_with (first | (with_reducible refine wpList_loads rfl 46 (.tmp 3) rfl _ rfl _ hld ?_) | (refine wpList_storev rfl 46 (.tmp 2) (.tmp 38) rfl b1 (zs.map bv) (dg.map bv) 32 rfl rfl hRb (by rw [List.length_map, HZL.out]) (by rw [List.length_map, HDL.out]) dig_size2 (bv_one dg) ?_; intro w6 hbox6 hbel6))
      have hfin := hbel6 _ _ l1 (Below.trans hg (hbel.mono (Nat.le_of_lt l01)))
      rw [HDE.out] at hbox6
      refine bodyPost_ret (v := dv (bytesOf v)) (res_has Tryz.results134 _ rfl Tryz.underlying46 rfl (by rw [List.length_map, bytesOf_len]; exact dig_size2) hbox6) rfl ⟨rfl, hfin⟩
end Go.Proofs.YtbcldknecdbemaaGreatDoor

/-
  Contracts of (*State).Sum and of sha.Sum: the digest of the bytes; nothing that was there has turned. Conditions: the table keys holds the document's numbers; at most a million bytes.
-/
namespace Go.Proofs.YtbcldknecdbemaaGreatDoor
open Go.RowKit
set_option linter.unusedVariables false
set_option maxRecDepth 20000

theorem eight_next (N i : Nat) (hi : 0 < i) (h8 : i ≤ 8) : (eight N).take (8 - (i - 1)) = (eight N).take (8 - i) ++ [UInt8.ofNat (N / 256 ^ (i - 1) % 256)] := by
  match i, hi, h8 with
  | 1, _, _ => simp [eight]
  | 2, _, _ => simp [eight]
  | 3, _, _ => simp [eight]
  | 4, _, _ => simp [eight]
  | 5, _, _ => simp [eight]
  | 6, _, _ => simp [eight]
  | 7, _, _ => simp [eight]
  | 8, _, _ => simp [eight]

set_option maxRecDepth 100000 in
set_option maxHeartbeats 1000000 in
theorem ssum_any (b : Nat) (l : List UInt8) (w : World) (hk : Keys w) (hh : Hold w b l) (hn : l.length ≤ 1000000) :
    Calls Tryz.prog 95 #[.pointer (some ⟨b, 0, none⟩)] w fun e w' => e = .returned (dv (shaOf l)) ∧ Grows w w' := by
  have hbox := Has.new w 46 (zeros32.map bv)
  have hg0 := grows_alloc w (.cells (zeros32.map bv).toArray 46)
  have hh0 := hh.later hg0
  have hk0 := hk.later hg0
  clear hh hk
  go_enter Tryz.func95, Tryz.ntmps95
  go_wp2_with fail
  change Calls _ _ _ (w.alloc (.cells (zeros32.map bv).toArray 46)) _
  generalize w.alloc (.cells (zeros32.map bv).toArray 46) = w0 at *
  have hzl := zeros32_len
  generalize zeros32 = zs at *
  have HZL := Lib.hid hzl
  clear hzl
  refine (sclone_any b l w0 hh0).mono ?_
  rintro e w1 ⟨rfl, hh1, hg1⟩
  have hs1 := hh0.later hg1
  have hk1 := hk0.later hg1
  have hbox1 := hbox.later hg1
  have hbw : w.heap.size < w0.heap.size := hbox.lt
  have hbb : b < w0.heap.size := by obtain ⟨_, h, _⟩ := hh0; exact h.has.lt
  have hg01 := Grows.trans hg0 hg1
  have hbe := hk0.pos
  generalize w0.heap.size = be at *
  clear hh0 hk0 hbox hg0 hg1
  go_wp2_with fail
  refine (put_any be l 128 w1 hk1 hbe hh1 (by omega)).mono ?_
  rintro e w2 ⟨rfl, hh2, hb2⟩
  have hgl := gap_lt l.length
  have HP := Lib.hid (show padded l = l ++ [128] ++ List.replicate (gap l.length) 0 ++ eight (8 * l.length) from rfl)
  clear hh1
  go_wp2_with fail
  go_loopg [] (gap l.length) (fun k wr => ∃ j : Nat, j + k = gap l.length ∧ Hold wr be (l ++ [128] ++ List.replicate j 0) ∧ But be w1 wr)
  case atStart => exact ⟨0, by omega, by simpa using hh2, hb2⟩
  case round =>
    clear hh2 hb2
    obtain ⟨j, hj, hhold, hbut⟩ := hrel
    have hlen : (l ++ [128] ++ List.replicate j 0).length = l.length + 1 + j := by simp; omega
    have hsz : wr.cell? ⟨be, 72, none⟩ = some (.int .i64 ((l.length + 1 + j : Nat) : Int)) := by
      obtain ⟨blk, hst, _⟩ := hhold
      have := hst.size
      rwa [hlen] at this
    have hkr := hk1.but hbut hbe
    by_cases hlt : j < gap l.length
    · have o1 : (((l.length + 1 + j : Nat) : Int) % 64 == 56) = false := by simp; unfold gap at hlt; omega
      have o2 : (((l.length + 1 + j : Nat) : Int) % 64 != 56) = true := by simp; unfold gap at hlt; omega
      have HLEN := Lib.hid hlen
      have HH := Lib.hid hhold
      have HB := Lib.hid hbut
      have HKR := Lib.hid hkr
      have HJ := Lib.hid hj
      have hm : l.length + 1 + j ≤ 2000000 := by omega
      have HLT := Lib.hid hlt
      clear hlen hhold hbut hkr hj hlt
      generalize l.length + 1 + j = m at *
      go_wp2_with fail
      refine (put_any be (l ++ [128] ++ List.replicate j 0) 0 wr HKR.out hbe HH.out (by rw [HLEN.out]; omega)).mono ?_
      rintro e w3 ⟨rfl, hh3, hb3⟩
      rw [List.append_assoc, ← List.replicate_succ'] at hh3
      have hb3' := HB.out.trans hb3
      clear hb3
      go_wp2_with fail
      go_roundg (gk - 1)
      case rel => exact ⟨j + 1, by have h1 := HJ.out; have h2 := HLT.out; omega, hh3, hb3'⟩
      case measure => have h1 := HJ.out; have h2 := HLT.out; omega
    · obtain rfl : j = gap l.length := by omega
      have o1 : (((l.length + 1 + gap l.length : Nat) : Int) % 64 == 56) = true := by simp; unfold gap; omega
      have o2 : (((l.length + 1 + gap l.length : Nat) : Int) % 64 != 56) = false := by simp; unfold gap; omega
      have HLEN := Lib.hid hlen
      have HH := Lib.hid hhold
      have HB := Lib.hid hbut
      have HKR := Lib.hid hkr
      have hm : l.length + 1 + gap l.length ≤ 2000000 := by omega
      clear hlen hhold hbut hkr hj hlt
      generalize l.length + 1 + gap l.length = m at *
      generalize l ++ [128] ++ List.replicate (gap l.length) 0 = pre at *
      go_wp2_with fail
      go_loopw [4] (fun t wr => ∃ i : Nat, i ≤ 8 ∧ t = .int .i64 (8 * (i : Int) - 8) ∧ Hold wr be (pre ++ (eight (8 * l.length)).take (8 - i)) ∧ But be w1 wr) (fun t _ => (intOf t + 8).toNat)
      case atStart => exact ⟨8, by omega, rfl, by simpa using HH.out, HB.out⟩
      case round =>
        clear HH HB HKR hsz o1 o2
        obtain ⟨i, hi, rfl, hhold, hbut⟩ := hrel
        by_cases hlt : 0 < i
        · have hE := eight_next (8 * l.length) i hlt hi
          have hsz : wr.cell? ⟨b, 72, none⟩ = some (.int .i64 (l.length : Int)) := by
            obtain ⟨blk, hst, _⟩ := hs1.but hbut (by omega)
            exact hst.size
          have hkr := hk1.but hbut hbe
          have hll : (pre ++ (eight (8 * l.length)).take (8 - i)).length ≤ 3000000 := by simp [HLEN.out, eight_len]; omega
          have hsh : (8 * (l.length : Int)) / 2 ^ (8 * (i : Int) - 8).toNat = ((8 * l.length / 256 ^ (i - 1) : Nat) : Int) := by
            rw [show (8 * (i : Int) - 8).toNat = 8 * (i - 1) by omega, show ((2 : Int) ^ (8 * (i - 1))) = ((2 ^ (8 * (i - 1)) : Nat) : Int) by simp, Nat.pow_mul]
            simp
          have HE := Lib.hid hE
          have HH := Lib.hid hhold
          have HB := Lib.hid hbut
          have HKR := Lib.hid hkr
          have HLL := Lib.hid hll
          clear hE hhold hbut hkr hll
          have i1 : (0 : Int) ≤ 8 * (i : Int) - 8 := by omega
          have i2 : 8 * (i : Int) - 8 ≤ 64 := by omega
          have i3 : (8 : Int) ≤ 8 * (i : Int) := by omega
          have hcv : Value.int .u8 (8 * (l.length : Int) / 256 ^ (i - 1) % 256) = .int .u8 ((UInt8.ofNat (8 * l.length / 256 ^ (i - 1) % 256)).toNat : Int) := by
            have := byte_of (8 * l.length / 256 ^ (i - 1))
            simp only [bv] at this
            rw [this]
            congr 1
          have HCV := Lib.hid hcv
          clear hcv
          go_wp2_with fail
          rw [HCV.out]
          refine (put_any be _ _ wr HKR.out hbe HH.out (Nat.le_trans HLL.out (by omega))).mono ?_
          rintro e w3 ⟨rfl, hh3, hb3⟩
          rw [List.append_assoc, ← HE.out] at hh3
          have hb3' := HB.out.trans hb3
          clear hb3 hsh
          go_wp2_with fail
          go_roundw
          case rel => exact ⟨i - 1, by omega, by congr 1; omega, hh3, hb3'⟩
          case measure => simp [intOf]; omega
        · obtain rfl : i = 0 := by omega
          have hfull : Hold wr be (padded l) := by
            rw [HP.out]
            have := hhold
            rwa [List.take_of_length_le (by rw [eight_len]; omega)] at this
          obtain ⟨blk, hst, _⟩ := hfull
          have hok := through_ok (padded l) ((padded l).length / 64)
          have HS := Lib.hid (show shaOf l = bytesOf (through (padded l) ((padded l).length / 64)) from rfl)
          generalize through (padded l) ((padded l).length / 64) = V at *
          have hld := range_load hst.words Tryz.underlying170 rfl arr8_size
          have hboxr := hbox1.but hbut (by omega)
          have hgr : Grows w wr := hg01.grown hbut hg01.size (fun k hk => by have := Option.some.inj hk; omega)
          clear hst hhold
          go_wp2_with (with_reducible refine wpList_loads rfl 170 (.tmp 34) rfl _ rfl _ hld ?_)
          refine (digest_of V wr hok).mono ?_
          rintro e w5 ⟨rfl, hg5⟩
          have hbox5 := hboxr.later hg5
          clear hld
          go_wp2_with (refine wpList_storev rfl 46 (.tmp 2) (.tmp 36) rfl w.heap.size (zs.map bv) ((bytesOf V).map bv) 32 rfl rfl hbox5 (by rw [List.length_map, HZL.out]) (by rw [List.length_map, bytesOf_len]) dig_size2 (bv_one _) ?_; intro w6 hbox6 hbel6)
          have hfin := hbel6 _ _ (Nat.le_refl _) (Grows.trans hgr hg5)
          rw [← HS.out] at hbox6
          refine bodyPost_ret (v := dv (shaOf l)) (res_has Tryz.results95 _ rfl Tryz.underlying46 rfl (by rw [List.length_map, shaOf_len]; exact dig_size2) hbox6) rfl ⟨rfl, hfin⟩

set_option maxRecDepth 100000 in
set_option maxHeartbeats 1000000 in
theorem sum_any (A : Option Addr) (n c : Nat) (bs : List UInt8) (w : World) (hk : Keys w) (hl : bs.length = n) (hr : Lies w w.heap.size A (bs.map bv)) (hn : n ≤ 1000000) :
    Calls Tryz.prog 52 #[.slice A n c] w fun e w' => e = .returned (dv (shaOf bs)) ∧ Grows w w' := by
  have hbox := Has.new w 46 (zeros32.map bv)
  have hg0 := grows_alloc w (.cells (zeros32.map bv).toArray 46)
  have hk0 := hk.later hg0
  have hr0 := hr.later hg0
  have HL := Lib.hid hl
  clear hk hr hl
  go_enter Tryz.func52, Tryz.ntmps52
  go_wp2_with fail
  change Calls _ _ _ (w.alloc (.cells (zeros32.map bv).toArray 46)) _
  generalize w.alloc (.cells (zeros32.map bv).toArray 46) = w0 at *
  have hzl := zeros32_len
  generalize zeros32 = zs at *
  have HZL := Lib.hid hzl
  clear hzl
  refine (new_any w0).mono ?_
  rintro e w1 ⟨rfl, hh1, hg1⟩
  have hk1 := hk0.later hg1
  have hbox1 := hbox.later hg1
  have hbw : w.heap.size < w0.heap.size := hbox.lt
  have hr1 : Off w1 w0.heap.size A (bs.map bv) := fun j u hu => by
    obtain ⟨ad, e, hlt, hc⟩ := hr0 j u hu
    exact ⟨ad, e, by omega, hcell_later hc hg1⟩
  have hg01 := Grows.trans hg0 hg1
  have hbe := hk0.pos
  generalize w0.heap.size = be at *
  clear hk0 hbox hg0 hg1 hr0
  go_wp2_with fail
  refine (write_any be [] A n c bs w1 hk1 hbe hh1 HL.out hr1 (by simpa using hn)).mono ?_
  rintro e w2 ⟨rfl, hh2, hb2⟩
  have hk2 := hk1.but hb2 hbe
  have hbox2 := hbox1.but hb2 (by omega)
  have hg2 : Grows w w2 := hg01.grown hb2 hg01.size (fun k hk => by have := Option.some.inj hk; omega)
  rw [List.nil_append] at hh2
  clear hh1 hk1 hbox1 hg01 hr1
  go_wp2_with fail
  refine (ssum_any be bs w2 hk2 hh2 (by rw [HL.out]; exact hn)).mono ?_
  rintro e w3 ⟨rfl, hg3⟩
  have hbox3 := hbox2.later hg3
  go_wp2_with (refine wpList_storev rfl 46 (.tmp 2) (.tmp 9) rfl w.heap.size (zs.map bv) ((shaOf bs).map bv) 32 rfl rfl hbox3 (by rw [List.length_map, HZL.out]) (by rw [List.length_map, shaOf_len]) dig_size2 (bv_one _) ?_; intro w6 hbox6 hbel6)
  have hfin := hbel6 _ _ (Nat.le_refl _) (Grows.trans hg2 hg3)
  refine bodyPost_ret (v := dv (shaOf bs)) (res_has Tryz.results52 _ rfl Tryz.underlying46 rfl (by rw [List.length_map, shaOf_len]; exact dig_size2) hbox6) rfl ⟨rfl, hfin⟩
end Go.Proofs.YtbcldknecdbemaaGreatDoor

/-
  From the row's condition (the variable keys reads as its initialiser lays it) to what the walks ask.
-/
namespace Go.Proofs.YtbcldknecdbemaaGreatDoor
open Go.RowKit
set_option linter.unusedVariables false
set_option maxRecDepth 20000
theorem gKeys : Tryz.prog.globalNamed "lighterage/sha.keys" = some 1 := by kernel_rfl
theorem tKeys : (Tryz.prog.globals[1]?).map (·.type) = some 208 := by kernel_rfl
theorem keys_tab : (Rows.laid_lighterage_sha_keys : DataW Unit) = Lib.tabData .u32 (roots64.map fun n : Nat => (n : Int)) := rfl
theorem keys_of_laid {W : World} (h : laidMetH Tryz.prog [("lighterage/sha.keys", Rows.laid_lighterage_sha_keys)] W) : Keys W := by
  rw [MakeChecks.laidMetH_plain _ _ _ (by kernel_rfl), keys_tab] at h
  have ht := Lib.tabIs_of_head gKeys tKeys Tryz.underlying208 Tryz.underlying100 (by kernel_rfl) (by kernel_rfl) h
  intro j u hu
  have hj : j < roots64.length := by have := (List.getElem?_eq_some_iff.1 hu).1; simpa using this
  have := ht.cell gKeys j (by simpa using hj)
  rw [Nat.zero_add, this, ← hu, List.getElem?_map, getD_some hj]
  simp [hj]
end Go.Proofs.YtbcldknecdbemaaGreatDoor
