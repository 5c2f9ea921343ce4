/-
  The walk of the law StorePlaces.
-/
import Derived.Test.YtbcldknecdbemaaDoorP17
namespace Go.Proofs.YtbcldknecdbemaaDoor
open Go.RowKit
set_option linter.unusedVariables false
set_option maxRecDepth 20000

set_option maxHeartbeats 2000000 in
theorem storeplaces_walk (la lb : Byts) (w : World) (hk : Keys w) (ha : la.length = 32) (hb : lb.length = 32) :
    Calls Tryd.prog 5 #[dv la, dv lb] w fun e w' => e = .returned (.bool true) ∧ Below w.heap.size w w' := by
  have hA := Box.new w 26 la
  have ga := grows_alloc w (.cells (la.map bv).toArray 26)
  have hB := Box.new (w.alloc (.cells (la.map bv).toArray 26)) 26 lb
  have gb := grows_alloc (w.alloc (.cells (la.map bv).toArray 26)) (.cells (lb.map bv).toArray 26)
  have hA2 := hA.later gb
  have G2 := Grows.trans ga gb
  rw [World.size_alloc] at hB
  have PA := Lib.hid (fun u => place_any la u ha)
  have PB := Lib.hid (fun u => place_any lb u hb)
  have RA := Lib.hid (fun u => rplace_any la u ha)
  have hpe : (placeB la == placeB lb) = (la == lb) := by
    rw [Bool.eq_iff_iff]
    simp only [beq_iff_eq]
    exact ⟨fun e => place_inj ha hb e, fun e => by rw [e]⟩
  have e1 : ∀ t, binOp .eql t (tv (placeB la)) (tv (placeB la)) = (pure (.bool true) : Sem Value) := fun t => by rw [run_teq (P := Tryd.prog)]; simp
  have e2 : ∀ t, binOp .eql t (tv (placeB la)) (tv (placeB lb)) = (pure (.bool (la == lb)) : Sem Value) := fun t => by rw [run_teq (P := Tryd.prog), hpe]
  have e3 := fun u => Hx.eql_dig la lb ha hb u
  obtain ⟨w2, hw2⟩ : ∃ u, u = (w.alloc (.cells (la.map bv).toArray 26)).alloc (.cells (lb.map bv).toArray 26) := ⟨_, rfl⟩
  rw [← hw2] at hA2 hB G2
  have HW2 := Lib.hid hw2.symm
  have gd := (Grows.refl w2).drew
  have LV : Hid (∀ u, Grows w2.drew u → Calls Tryd.prog 22 #[] u fun e w' => e = .returned (.bool true) ∧ Grows u w') := fun u h => lives13_any u (hk.later (Grows.trans G2 (Grows.trans gd h)))
  have ldA : ∀ u, Grows w2.drew u → (Instr.loadAt 26 (.pointer (some ⟨w.heap.size, 0, none⟩))).run Tryd.prog u = .ok (dv la) u := fun u h => (hA2.later (Grows.trans gd h)).load Tryd.underlying26 Hx.dig_size ha
  have ldB : ∀ u, Grows w2.drew u → (Instr.loadAt 26 (.pointer (some ⟨w.heap.size + 1, 0, none⟩))).run Tryd.prog u = .ok (dv lb) u := fun u h => (hB.later (Grows.trans gd h)).load Tryd.underlying26 Hx.dig_size hb
  generalize placeB la = pa at *
  generalize placeB lb = pb at *
  generalize (la == lb) = t at *
  clear hw2 hA hB hA2 ga gb hpe
  go_enter Tryd.func5, Tryd.ntmps5
  go_wp2_with fail
  change Code.wp _ _ _ _ ((w.alloc (.cells (la.map bv).toArray 26)).alloc (.cells (lb.map bv).toArray 26))
  rw [HW2.out]
  refine wp_region_ord 20 [(0, true), (1, true), (2, true), (3, true), (4, true), (5, true), (6, true), (7, true), (8, true), (9, true), (10, true), (11, true), (12, true), (13, true), (14, true), (15, true), (16, true), (17, true), (18, true), (19, true)] (by kernel_rfl) (by kernel_rfl) ?_
  have hO := Grows.refl w2.drew
  repeat (first | (refine ord_load hO _ _ (by simp only [List.getElem?_cons_succ, List.getElem?_cons_zero]; rfl) (by rfl) 26 (.tmp 2) (by rfl) _ (by rfl) ldA ?_; try simp only [Act.put, List.setIfInBounds_toArray, List.set_cons_zero, List.set_cons_succ]) | (refine ord_load hO _ _ (by simp only [List.getElem?_cons_succ, List.getElem?_cons_zero]; rfl) (by rfl) 26 (.tmp 3) (by rfl) _ (by rfl) ldB ?_; try simp only [Act.put, List.setIfInBounds_toArray, List.set_cons_zero, List.set_cons_succ]) | (refine ord_take hO _ ?_ (by simp only [List.getElem?_cons_succ, List.getElem?_cons_zero]; rfl) (by rfl) ?_ ?_; rotate_left; (· (intro u hu0 hu; (try go_simp); (try with_reducible rfl))); try simp only [Act.put, List.setIfInBounds_toArray, List.set_cons_zero, List.set_cons_succ]) | (refine ord_skip _ (by simp only [List.getElem?_cons_succ, List.getElem?_cons_zero]; rfl) (by rfl) ?_; try simp only [Act.put, List.setIfInBounds_toArray, List.set_cons_zero, List.set_cons_succ]) | (refine ord_call hO _ ?_ (by simp only [List.getElem?_cons_succ, List.getElem?_cons_zero]; rfl) (by rfl) ?_ ?_; rotate_left; (· (intro u hu0 hu; go_simp; (try refine quiet_enter ?_); (first | with_reducible exact PA.out u | with_reducible exact PB.out u | with_reducible exact RA.out u | with_reducible exact LV.out u hu0))); try simp only [Act.put, List.setIfInBounds_toArray, List.set_cons_zero, List.set_cons_succ]))
  refine ord_done (fun w7 hu7 => ?_)
  simp only [List.drop_succ_cons, List.drop_zero]
  go_wp2_with fail
  refine NoPanic.normal ?_
  go_wp2_with fail
  go_ret
  exact ⟨rfl, Grows.trans G2 (Grows.trans gd hu7)⟩
end Go.Proofs.YtbcldknecdbemaaDoor
