/-
  tree.rise at nodes and attributes: whether each text is greater than that of the one ahead; attrsMay, kidsRise.
-/
import Derived.Test.YtanofmejokgijaaTrD
namespace Go.Proofs.Ytanofmejokgijaa
open Go.RowKit
set_option linter.unusedVariables false

theorem rec_in {w : World} {ok : Nat → Prop} {ad : Addr} {i : Nat} {vs : List Value} (h : RecAt w ok (some ad) i vs) : RecAt w ok (some (ad.add (i * 12))) 0 vs := by
  obtain ⟨ad', e, hb, hc⟩ := h
  injection e with e
  subst e
  exact ⟨_, rfl, by rw [add_block]; exact hb, fun j u hu => by rw [add_add_addr, Nat.zero_mul, Nat.zero_add]; exact hc j u hu⟩

set_option maxRecDepth 20000 in
set_option maxHeartbeats 1000000 in
theorem riseN1_any (j : Nat) (A1 : Option Addr) (a0 ad : Addr) (bf bl : Nat) (n c : Nat) (x y : List UInt8) (w : World) (hj : j < n) (hn : n ≤ 1000000000)
    (hf : w.cell? ⟨bf, 0, none⟩ = some (.func (.func 83) #[] #[])) (hl : w.cell? ⟨bl, 0, none⟩ = some (.slice (some a0) n c))
    (hx : w.cell? ⟨(a0.add (j * 12)).block, (a0.add (j * 12)).off + 1, none⟩ = some (tv x)) (hy : w.cell? ⟨ad.block, ad.off + 1, none⟩ = some (tv y)) :
    Calls Try.prog 102 #[.int .i64 ((j + 1 : Nat) : Int), .pointer (some ad), .pointer (some ⟨bf, 0, none⟩), .pointer (some ⟨bl, 0, none⟩)] w fun e w' => e = .returned (.bool (decide (cmpB x y = -1))) ∧ Grows w w' := by
  have hd := (Grows.refl w).drew
  have hw1 : IntKind.i64.wrap (j : Int) = (j : Int) := IntWalk.i64_in _ (by omega)
  have b0 : ((j : Int) + 1 == 0) = false := by simp; omega
  have hj' : (j : Int) < (n : Int) := by omega
  have l1 := fun t => run_tlt t x y
  generalize decide (cmpB x y = -1) = R at *
  go_enter Try.func102, Try.ntmps102
  go_wp2_with fail
  refine wp_region_ord 15 [(0, true), (1, true), (2, true), (3, true), (4, true), (5, true), (6, true), (7, true), (8, true), (9, true), (10, true), (11, true), (12, true), (13, true), (14, true)] (by kernel_rfl) (by kernel_rfl) ?_
  have hO := Grows.refl w.drew
  have f1 : ∀ u, Grows w.drew u → u.cell? ⟨bf, 0, none⟩ = some (.func (.func 83) #[] #[]) := fun u h => hcell_later hf (Grows.trans hd h)
  have f2 : ∀ u, Grows w.drew u → u.cell? ⟨bl, 0, none⟩ = some (.slice (some a0) n c) := fun u h => hcell_later hl (Grows.trans hd h)
  have HX : Hid (∀ u, Grows w.drew u → Calls Try.prog 83 #[.pointer (some (a0.add (j * 12)))] u fun e w' => e = .returned (tv x) ∧ Grows u w') := fun u h => ktext_any _ x u (hcell_later hx (Grows.trans hd h))
  have HY : Hid (∀ u, Grows w.drew u → Calls Try.prog 83 #[.pointer (some ad)] u fun e w' => e = .returned (tv y) ∧ Grows u w') := fun u h => ktext_any _ y u (hcell_later hy (Grows.trans hd h))
  generalize w.drew = wd at *
  repeat (first | (refine ord_take hO _ ?_ (by simp only [List.getElem?_cons_succ, List.getElem?_cons_zero]; rfl) (by rfl) ?_ ?_; rotate_left; (· (intro u hu0 hu; (try go_simp); (try with_reducible rfl))); try simp only [Act.put, List.setIfInBounds_toArray, List.set_cons_zero, List.set_cons_succ]) | (refine ord_skip _ (by simp only [List.getElem?_cons_succ, List.getElem?_cons_zero]; rfl) (by rfl) ?_; try simp only [Act.put, List.setIfInBounds_toArray, List.set_cons_zero, List.set_cons_succ]) | (refine ord_call hO _ ?_ (by simp only [List.getElem?_cons_succ, List.getElem?_cons_zero]; rfl) (by rfl) ?_ ?_; rotate_left; (· (intro u hu0 hu; go_simp; (try refine quiet_enter ?_); (first | with_reducible exact HX.out u hu0 | with_reducible exact HY.out u hu0))); try simp only [Act.put, List.setIfInBounds_toArray, List.set_cons_zero, List.set_cons_succ]))
  (refine ord_done (fun u hu => ?_); simp only [List.drop_succ_cons, List.drop_zero])
  go_wp2_with fail
  refine NoPanic.normal ?_
  go_wp2_with fail
  go_ret
  exact ⟨rfl, Grows.trans hd hu⟩
theorem riseN0_any (a0 ad : Value) (bf bl : Value) (w : World) : Calls Try.prog 102 #[.int .i64 0, ad, bf, bl] w fun e w' => e = .returned (.bool true) ∧ Grows w w' := by
  have hd := (Grows.refl w).drew
  go_enter Try.func102, Try.ntmps102
  go_wp2_with fail
  refine wp_region_ord 15 [(0, true), (1, true), (2, true), (3, true), (4, true), (5, true), (6, true), (7, true), (8, true), (9, true), (10, true), (11, true), (12, true), (13, true), (14, true)] (by kernel_rfl) (by kernel_rfl) ?_
  have hO := Grows.refl w.drew
  generalize w.drew = wd at *
  repeat (first | (refine ord_take hO _ ?_ (by simp only [List.getElem?_cons_succ, List.getElem?_cons_zero]; rfl) (by rfl) ?_ ?_; rotate_left; (· (intro u hu0 hu; (try go_simp); (try with_reducible rfl))); try simp only [Act.put, List.setIfInBounds_toArray, List.set_cons_zero, List.set_cons_succ]) | (refine ord_skip _ (by simp only [List.getElem?_cons_succ, List.getElem?_cons_zero]; rfl) (by rfl) ?_; try simp only [Act.put, List.setIfInBounds_toArray, List.set_cons_zero, List.set_cons_succ]))
  (refine ord_done (fun u hu => ?_); simp only [List.drop_succ_cons, List.drop_zero])
  go_wp2_with fail
  refine NoPanic.normal ?_
  go_wp2_with fail
  go_ret
  exact ⟨rfl, Grows.trans hd hu⟩

set_option maxRecDepth 20000 in
set_option maxHeartbeats 1000000 in
theorem riseA1_any (j : Nat) (A1 : Option Addr) (a0 ad : Addr) (bf bl : Nat) (n c : Nat) (x y : List UInt8) (w : World) (hj : j < n) (hn : n ≤ 1000000000)
    (hf : w.cell? ⟨bf, 0, none⟩ = some (.func (.func 98) #[] #[])) (hl : w.cell? ⟨bl, 0, none⟩ = some (.slice (some a0) n c))
    (hx : w.cell? (a0.add (j * 2)) = some (tv x)) (hy : w.cell? ad = some (tv y)) :
    Calls Try.prog 107 #[.int .i64 ((j + 1 : Nat) : Int), .pointer (some ad), .pointer (some ⟨bf, 0, none⟩), .pointer (some ⟨bl, 0, none⟩)] w fun e w' => e = .returned (.bool (decide (cmpB x y = -1))) ∧ Grows w w' := by
  have hd := (Grows.refl w).drew
  have hw1 : IntKind.i64.wrap (j : Int) = (j : Int) := IntWalk.i64_in _ (by omega)
  have b0 : ((j : Int) + 1 == 0) = false := by simp; omega
  have hj' : (j : Int) < (n : Int) := by omega
  have l1 := fun t => run_tlt t x y
  generalize decide (cmpB x y = -1) = R at *
  go_enter Try.func107, Try.ntmps107
  go_wp2_with fail
  refine wp_region_ord 15 [(0, true), (1, true), (2, true), (3, true), (4, true), (5, true), (6, true), (7, true), (8, true), (9, true), (10, true), (11, true), (12, true), (13, true), (14, true)] (by kernel_rfl) (by kernel_rfl) ?_
  have hO := Grows.refl w.drew
  have f1 : ∀ u, Grows w.drew u → u.cell? ⟨bf, 0, none⟩ = some (.func (.func 98) #[] #[]) := fun u h => hcell_later hf (Grows.trans hd h)
  have f2 : ∀ u, Grows w.drew u → u.cell? ⟨bl, 0, none⟩ = some (.slice (some a0) n c) := fun u h => hcell_later hl (Grows.trans hd h)
  have HX : Hid (∀ u, Grows w.drew u → Calls Try.prog 98 #[.pointer (some (a0.add (j * 2)))] u fun e w' => e = .returned (tv x) ∧ Grows u w') := fun u h => atext_any _ x u (hcell_later hx (Grows.trans hd h))
  have HY : Hid (∀ u, Grows w.drew u → Calls Try.prog 98 #[.pointer (some ad)] u fun e w' => e = .returned (tv y) ∧ Grows u w') := fun u h => atext_any _ y u (hcell_later hy (Grows.trans hd h))
  generalize w.drew = wd at *
  repeat (first | (refine ord_take hO _ ?_ (by simp only [List.getElem?_cons_succ, List.getElem?_cons_zero]; rfl) (by rfl) ?_ ?_; rotate_left; (· (intro u hu0 hu; (try go_simp); (try with_reducible rfl))); try simp only [Act.put, List.setIfInBounds_toArray, List.set_cons_zero, List.set_cons_succ]) | (refine ord_skip _ (by simp only [List.getElem?_cons_succ, List.getElem?_cons_zero]; rfl) (by rfl) ?_; try simp only [Act.put, List.setIfInBounds_toArray, List.set_cons_zero, List.set_cons_succ]) | (refine ord_call hO _ ?_ (by simp only [List.getElem?_cons_succ, List.getElem?_cons_zero]; rfl) (by rfl) ?_ ?_; rotate_left; (· (intro u hu0 hu; go_simp; (try refine quiet_enter ?_); (first | with_reducible exact HX.out u hu0 | with_reducible exact HY.out u hu0))); try simp only [Act.put, List.setIfInBounds_toArray, List.set_cons_zero, List.set_cons_succ]))
  (refine ord_done (fun u hu => ?_); simp only [List.drop_succ_cons, List.drop_zero])
  go_wp2_with fail
  refine NoPanic.normal ?_
  go_wp2_with fail
  go_ret
  exact ⟨rfl, Grows.trans hd hu⟩
theorem riseA0_any (a0 ad : Value) (bf bl : Value) (w : World) : Calls Try.prog 107 #[.int .i64 0, ad, bf, bl] w fun e w' => e = .returned (.bool true) ∧ Grows w w' := by
  have hd := (Grows.refl w).drew
  go_enter Try.func107, Try.ntmps107
  go_wp2_with fail
  refine wp_region_ord 15 [(0, true), (1, true), (2, true), (3, true), (4, true), (5, true), (6, true), (7, true), (8, true), (9, true), (10, true), (11, true), (12, true), (13, true), (14, true)] (by kernel_rfl) (by kernel_rfl) ?_
  have hO := Grows.refl w.drew
  generalize w.drew = wd at *
  repeat (first | (refine ord_take hO _ ?_ (by simp only [List.getElem?_cons_succ, List.getElem?_cons_zero]; rfl) (by rfl) ?_ ?_; rotate_left; (· (intro u hu0 hu; (try go_simp); (try with_reducible rfl))); try simp only [Act.put, List.setIfInBounds_toArray, List.set_cons_zero, List.set_cons_succ]) | (refine ord_skip _ (by simp only [List.getElem?_cons_succ, List.getElem?_cons_zero]; rfl) (by rfl) ?_; try simp only [Act.put, List.setIfInBounds_toArray, List.set_cons_zero, List.set_cons_succ]))
  (refine ord_done (fun u hu => ?_); simp only [List.drop_succ_cons, List.drop_zero])
  go_wp2_with fail
  refine NoPanic.normal ?_
  go_wp2_with fail
  go_ret
  exact ⟨rfl, Grows.trans hd hu⟩
end Go.Proofs.Ytanofmejokgijaa
