/-
  Contracts of sha's State, by the memory's own words: put, New, Clone, Len, Write.
-/
import Derived.Test.YtfpgnihibgmeeaaDoorShaG
namespace Go.Proofs.YtfpgnihibgmeeaaDoor
open Go.RowKit
set_option linter.unusedVariables false

set_option maxRecDepth 100000 in
set_option maxHeartbeats 1000000 in
theorem put_any (b : Nat) (l : List UInt8) (c : UInt8) (w : World) (hk : Keys w) (hb0 : 0 < b) (hh : Hold w b l) (hn : l.length ≤ 1000000000) :
    Calls Tryd.prog 22 #[.pointer (some ⟨b, 0, none⟩), .int .u8 (c.toNat : Int)] w fun e w' => e = .returned (.tuple #[]) ∧ Hold w' b (l ++ [c]) ∧ But b w w' := by
  obtain ⟨blk, hst, hp⟩ := hh
  have hv := through_ok l (l.length / 64)
  have f1 : (l.length + 1) % 64 = 0 → _ := fun h => fill_full (c := c) hst.blen hp h
  have f2 : (l.length + 1) % 64 ≠ 0 → _ := fun h => fill_part (c := c) hst.blen hp h
  have hlen : (l ++ [c]).length = l.length + 1 := by simp
  have HF1 := Lib.hid f1
  have HF2 := Lib.hid f2
  have HLEN := Lib.hid hlen
  clear f1 f2 hlen hp
  generalize through l (l.length / 64) = v at *
  generalize l.length = n at *
  have hsz := hst.size
  have hbl := hst.blen
  have hm64 : n % 64 < 64 := by omega
  have tm : (n : Int).tmod 64 = ((n % 64 : Nat) : Int) := by rw [Int.tmod_eq_emod_of_nonneg (by omega)]; rfl
  generalize n % 64 = m at *
  have HST := Lib.hid hst
  have HK := Lib.hid hk
  clear hst hk
  have n2 : (m : Int) < 64 := by omega
  go_enter Tryd.func22, Tryd.ntmps22
  go_wp2_with fail
  refine wp_region_ord 10 [(0, true), (1, true), (2, true), (3, true), (4, true), (5, true), (6, true), (7, true), (8, true), (9, true)] (by kernel_rfl) (by kernel_rfl) ?_
  have f0 : ∀ u, Grows w.drew u → u.cell? ⟨b, 72, none⟩ = some (.int .i64 (n : Int)) := fun u h => hcell_later (a := w.drew) hsz h
  have hO := Grows.refl w.drew
  repeat (first | (refine ord_take hO _ ?_ (by simp only [List.getElem?_cons_succ, List.getElem?_cons_zero]; rfl) (by rfl) ?_ ?_; rotate_left; (· (intro u hu0 hu; (try go_simp); (try with_reducible rfl))); try simp only [Act.put, List.setIfInBounds_toArray, List.set_cons_zero, List.set_cons_succ]) | (refine ord_skip _ (by simp only [List.getElem?_cons_succ, List.getElem?_cons_zero]; rfl) (by rfl) ?_; try simp only [Act.put, List.setIfInBounds_toArray, List.set_cons_zero, List.set_cons_succ]))
  clear f0 hO tm
  (refine ord_done (fun u hu => ?_); simp only [List.drop_succ_cons, List.drop_zero])
  have hstu := HST.out.later (w' := u) (Grows.trans ((Grows.refl w).drew) hu)
  have hku := HK.out.later (w' := u) (Grows.trans ((Grows.refl w).drew) hu)
  have hbu : But b w u := But.of_grows (Grows.trans ((Grows.refl w).drew) hu)
  have hset := hstu.setByte m hm64 c
  have hbut := hbu.trans (But.of_set u b (8 + m) (bv c))
  have hks := hku.but (But.of_set u b (8 + m) (bv c)) hb0
  have hfr := hstu.has.free (8 + m)
  obtain ⟨y, hy⟩ : ∃ y, (blk.map bv)[m]? = some y := ⟨_, List.getElem?_eq_getElem (by rw [List.length_map, hbl]; exact hm64)⟩
  have hcy := range_cell hstu.block hy
  clear hy hsz
  generalize hw1 : u.setCell ⟨b, 8 + m, none⟩ (bv c) = w1 at *
  have HW1 := Lib.hid hw1
  clear hw1
  go_wp2_with fail
  refine NoPanic.normal ?_
  change Exit.then _ _ _ _ (u.setCell ⟨b, 8 + m, none⟩ (bv c))
  rw [HW1.out]
  have hs1 := hset.size
  have hst2 : St (w1.setCell ⟨b, 72, none⟩ (.int .i64 ((n : Int) + 1))) b v (blk.set m c) (n + 1) := hset.setSize (n + 1)
  have hbut2 : But b w (w1.setCell ⟨b, 72, none⟩ (.int .i64 ((n : Int) + 1))) := hbut.trans (But.of_set w1 b 72 _)
  have hk2 : Keys (w1.setCell ⟨b, 72, none⟩ (.int .i64 ((n : Int) + 1))) := hks.but (But.of_set w1 b 72 _) hb0
  have hfr1 := hset.has.free 72
  have hbl' : (blk.set m c).length = 64 := hset.blen
  have HHS := Lib.hid hst2
  have HBU := Lib.hid hbut2
  have HKS := Lib.hid hk2
  clear hset hbut hks hstu hku hbu hfr hcy hst2 hbut2 hk2 hu
  generalize blk.set m c = bk at *
  by_cases hfull : (n + 1) % 64 = 0
  · have o1 : (((n : Int) + 1) % 64 == 0) = true := by simp; omega
    obtain ⟨g1, g2, g3⟩ := HF1.out hfull
    have G1 := Lib.hid g1
    have G2 := Lib.hid g2
    have G3 := Lib.hid g3
    clear g1 g2 g3
    go_wp2_with fail
    generalize w1.setCell ⟨b, 72, none⟩ (.int .i64 ((n : Int) + 1)) = w2 at *
    refine wp_region_ord 13 [(0, true), (1, true), (2, true), (3, true), (4, true), (5, true), (6, true), (7, true), (8, true), (9, true), (10, true), (11, true), (12, true)] (by kernel_rfl) (by kernel_rfl) ?_
    have hgd : Grows w2 w2.drew := (Grows.refl w2).drew
    have ldW : ∀ u, Grows w2.drew u → (Instr.loadAt 45 (.pointer (some ⟨b, 0, none⟩))).run Tryd.prog u = .ok (.agg (v.list.map uv).toArray) u := fun u h =>
      range_load (HHS.out.later (Grows.trans hgd h)).words Tryd.underlying45 rfl arr8_size
    have ldB : ∀ u, Grows w2.drew u → (Instr.loadAt 46 (.pointer (some ⟨b, 8, none⟩))).run Tryd.prog u = .ok (.agg (bk.map bv).toArray) u := fun u h =>
      range_load (HHS.out.later (Grows.trans hgd h)).block Tryd.underlying46 rfl (by rw [List.length_map, hbl']; exact blk64_size)
    have hky : ∀ u, Grows w2.drew u → Keys u := fun u h => HKS.out.later (Grows.trans hgd h)
    have HKY := Lib.hid hky
    have HGD := Lib.hid hgd
    have HBL := Lib.hid hbl'
    have hO := Grows.refl w2.drew
    clear hky hgd hs1 hfr1 o1 hbl'
    repeat (first | (refine ord_load hO _ _ (by simp only [List.getElem?_cons_succ, List.getElem?_cons_zero]; rfl) (by rfl) 45 (.tmp 30) (by rfl) _ (by rfl) ldW ?_; try simp only [Act.put, List.setIfInBounds_toArray, List.set_cons_zero, List.set_cons_succ]) | (refine ord_load hO _ _ (by simp only [List.getElem?_cons_succ, List.getElem?_cons_zero]; rfl) (by rfl) 46 (.tmp 34) (by rfl) _ (by rfl) ldB ?_; try simp only [Act.put, List.setIfInBounds_toArray, List.set_cons_zero, List.set_cons_succ]) | (refine ord_take hO _ ?_ (by simp only [List.getElem?_cons_succ, List.getElem?_cons_zero]; rfl) (by rfl) ?_ ?_; rotate_left; (· (intro u hu0 hu; (try go_simp); (try with_reducible rfl))); try simp only [Act.put, List.setIfInBounds_toArray, List.set_cons_zero, List.set_cons_succ]) | (refine ord_skip _ (by simp only [List.getElem?_cons_succ, List.getElem?_cons_zero]; rfl) (by rfl) ?_; try simp only [Act.put, List.setIfInBounds_toArray, List.set_cons_zero, List.set_cons_succ]) | (refine ord_call hO _ ?_ (by simp only [List.getElem?_cons_succ, List.getElem?_cons_zero]; rfl) (by rfl) ?_ ?_; rotate_left; (· (intro u hu0 hu; go_simp; (try refine quiet_enter ?_); (first | exact spread_any bk u HBL.out | exact mixed_any v (spreadL bk) u hv (spreadL_len bk) (HKY.out u hu0)))); try simp only [Act.put, List.setIfInBounds_toArray, List.set_cons_zero, List.set_cons_succ]))
    clear ldW ldB hO
    (refine ord_done (fun u hu => ?_); simp only [List.drop_succ_cons, List.drop_zero])
    have hgu := Grows.trans HGD.out hu
    have hstu := HHS.out.later hgu
    have hset := hstu.setWords (mix v bk)
    have hbut := (HBU.out.trans (But.of_grows hgu)).trans (But.setCells b ((mix v bk).list.map uv) 0 u)
    have ht : u.there b 0 8 := there_of hstu.words hstu.has.free
    go_wp2_with (refine wpList_store_mid rfl 45 (.tmp 39) (.tmp 37) rfl b 0 ((mix v bk).list.map uv).toArray rfl rfl ht arr8_size (all_oneCell_toArray (uv_one _)) ?_)
    refine NoPanic.normal ?_
    go_wp2_with fail
    go_end0
    refine ⟨rfl, ⟨bk, ?_, ?_⟩, hbut⟩
    · rw [G1.out, HLEN.out]
      exact hset
    · rw [G2.out, G3.out, List.take_zero]
  · have o1 : (((n : Int) + 1) % 64 == 0) = false := by simp; omega
    obtain ⟨g1, g2⟩ := HF2.out hfull
    have G1 := Lib.hid g1
    have G2 := Lib.hid g2
    clear g1 g2
    go_wp2_with fail
    go_end0
    refine ⟨rfl, ⟨bk, ?_, G2.out⟩, HBU.out⟩
    rw [G1.out, HLEN.out]
    exact HHS.out
end Go.Proofs.YtfpgnihibgmeeaaDoor
