/-
  Contracts, joined (RkG DkO RFil Ord2 OrdV).
-/
import Derived.Test.YtfcijeogkgbejaaK1
import Derived.Test.YtfcijeogkgbejaaJ4
import Derived.Test.YtfcijeogkgbejaaJ1

/-
  like: has a disk the reference's files?
-/
namespace Go.Proofs.Ytfcijeogkgbejaa
open Go.RowKit
set_option linter.unusedVariables false
set_option maxRecDepth 20000

theorem preF_nil (S : Fls) : preF S [] = S.map (·.1) := by
  have : S.filter (fun x => prefB x.1 []) = S := List.filter_eq_self.2 (fun x _ => by simp [prefB])
  unfold preF
  rw [this]

set_option maxHeartbeats 4000000 in
theorem like_r (D : Dk) (sv lv wv : Value) (a m : Nat) (X ok : Nat → Prop) (w : World) (hd : Dsk w a m X D) (hr : RDk w ok sv lv wv D) (hn : D.seen.length ≤ 1000000) (hW : D.weight ≤ 100000000) :
    Calls Try.prog 13 #[.pointer (some ⟨a, 0, none⟩), dV D sv lv wv] w fun e w' => e = .returned (.bool true) ∧ Grows w w' := by
  obtain ⟨A, c, rfl⟩ := hr.seen.form
  obtain ⟨Aw, cw, rfl⟩ := hr.waits.form
  have hok := hd.ok
  have husd := hok.used
  have hbox := Has.new w 31 [rv D.room, .slice A D.seen.length c, lv, .slice Aw D.waits.length cw, rv D.power]
  have hga := grows_alloc w (.cells [rv D.room, .slice A D.seen.length c, lv, .slice Aw D.waits.length cw, rv D.power].toArray 31)
  have LS := fun u (h : Grows w u) => list_d a m X D u [] (hd.later h) hn
  rw [preF_nil, List.length_map] at LS
  have U1 : Hid (∀ u, Grows w u → Calls Try.prog 24 #[.pointer (some ⟨a, 0, none⟩)] u fun e w' => e = .returned (.int .i64 (fUsed D.seen : Int)) ∧ Grows u w') := fun u h => (used_d a m X D u (hd.later h)).mono fun e w' ⟨h1, h2⟩ => ⟨h1, by rw [h2]; exact Grows.refl _⟩
  have U2 : Hid (∀ u, Grows w u → Calls Try.prog 25 #[dV D (.slice A D.seen.length c) lv (.slice Aw D.waits.length cw)] u fun e w' => e = .returned (.int .i64 (fUsed D.seen : Int)) ∧ Grows u w') := fun u h => used_r D _ lv _ u ok (hr.seen.later h) hn (by omega)
  have U3 : Hid (∀ u, Grows w u → Calls Try.prog 23 #[.pointer (some ⟨a, 0, none⟩)] u fun e w' => e = .returned (.int .i64 (D.waits.length : Int)) ∧ Grows u w') := fun u h => (waits_d a m X D u (hd.later h)).mono fun e w' ⟨h1, h2⟩ => ⟨h1, by rw [h2]; exact Grows.refl _⟩
  have U4 : Hid (∀ u, Grows w u → Calls Try.prog 28 #[.pointer (some ⟨a, 0, none⟩)] u fun e w' => e = .returned (.bool !(decide (D.power = 0))) ∧ Grows u w') := fun u h => (up_d a m X D u (hd.later h)).mono fun e w' ⟨h1, h2⟩ => ⟨h1, by rw [h2]; exact Grows.refl _⟩
  have R1 : Hid (∀ u, Grows w u → ∀ p, Calls Try.prog 29 #[.pointer (some ⟨a, 0, none⟩), tv p] u fun e w' => ∃ v, e = .returned (.tuple #[v, rv (readD D p).2]) ∧ Fresh u w' v (readD D p).1 ∧ Grows u w') := fun u h p => read_d a m X D u p (hd.later h) hW
  have R2 : Hid (∀ u, Grows w u → ∀ p, Calls Try.prog 39 #[dV D (.slice A D.seen.length c) lv (.slice Aw D.waits.length cw), tv p] u fun e w' => e = .returned (.tuple #[tv (readD D p).1, rv (readD D p).2]) ∧ Grows u w') := fun u h p => read_r D _ lv _ u ok p (hr.later h) hn
  have hs0 := hr.seen
  have hone := dL_one hr
  unfold dL at hone
  obtain ⟨n, hnn⟩ : ∃ n, n = D.seen.length := ⟨_, rfl⟩
  rw [← hnn] at hbox hga U2 R2 hs0 hn LS ⊢
  have HN := Lib.hid hnn
  have HD := Lib.hid hd
  have HOK := Lib.hid hok
  clear hnn hd hr hW husd hok hone
  have hupw : (!(decide (D.power = 0))) = !(D.power == 0) := by rfl
  have hne : (D.power != 0) = !(D.power == 0) := rfl
  rw [hupw] at U4
  generalize hpz : (D.power == 0) = pz at *
  have HPZ := Lib.hid hpz
  clear hpz hupw
  go_enter Try.func13, Try.ntmps13
  go_wp2_with fail
  change Calls _ _ _ (w.alloc (.cells [rv D.room, .slice A n c, lv, .slice Aw D.waits.length cw, rv D.power].toArray 31)) _
  generalize w.alloc (.cells [rv D.room, .slice A n c, lv, .slice Aw D.waits.length cw, rv D.power].toArray 31) = w1 at *
  generalize w.heap.size = B at *
  refine (LS _ hga).mono ?_
  rintro e w2 ⟨v, rfl, ho, g2⟩
  obtain ⟨Al, cl, rfl, hcl⟩ := own_form ho
  have G2 := Grows.trans hga g2
  have Gd := Grows.trans G2 (Grows.refl w2).drew
  have hb2 := hbox.later g2
  have k1 : ∀ u, Grows w2.drew u → u.cell? ⟨B, 1, none⟩ = some (.slice A n c) := fun u h => hcell_later (hb2.cell (k := 1) rfl) (Grows.trans (Grows.refl w2).drew h)
  have k3 : ∀ u, Grows w2.drew u → u.cell? ⟨B, 3, none⟩ = some (.slice Aw D.waits.length cw) := fun u h => hcell_later (hb2.cell (k := 3) rfl) (Grows.trans (Grows.refl w2).drew h)
  have k4 : ∀ u, Grows w2.drew u → u.cell? ⟨B, 4, none⟩ = some (rv D.power) := fun u h => hcell_later (hb2.cell (k := 4) rfl) (Grows.trans (Grows.refl w2).drew h)
  have ld : ∀ u, Grows w2.drew u → (Instr.loadAt 31 (.pointer (some ⟨B, 0, none⟩))).run Try.prog u = .ok (dV D (.slice A n c) lv (.slice Aw D.waits.length cw)) u := fun u h => (hb2.later (Grows.trans (Grows.refl w2).drew h)).load Try.underlying31 rfl d_size
  have C1 : Hid (∀ u, Grows w2.drew u → Grows w u) := fun u h => Grows.trans Gd h
  go_wp2_with fail
  refine wp_region_ord 29 [(0, true), (1, true), (2, true), (3, true), (4, true), (5, true), (6, true), (7, true), (8, true), (9, true), (10, true), (11, true), (12, true), (13, true), (14, true), (15, true), (16, true), (17, true), (18, true), (19, true), (20, true), (21, true), (22, true), (23, true), (24, true), (25, true), (26, true), (27, true), (28, true)] (by kernel_rfl) (by kernel_rfl) ?_
  have hO := Grows.refl w2.drew
  repeat (first | (refine ord_load hO _ _ (by simp only [List.getElem?_cons_succ, List.getElem?_cons_zero]; rfl) (by rfl) 31 (.tmp 3) (by rfl) _ (by rfl) ld ?_; try simp only [Act.put, List.setIfInBounds_toArray, List.set_cons_zero, List.set_cons_succ]) | (refine ord_take hO _ ?_ (by simp only [List.getElem?_cons_succ, List.getElem?_cons_zero]; rfl) (by rfl) ?_ ?_; rotate_left; (· (intro u hu0 hu; (try go_simp); (try with_reducible rfl))); try simp only [Act.put, List.setIfInBounds_toArray, List.set_cons_zero, List.set_cons_succ]) | (refine ord_skip _ (by simp only [List.getElem?_cons_succ, List.getElem?_cons_zero]; rfl) (by rfl) ?_; try simp only [Act.put, List.setIfInBounds_toArray, List.set_cons_zero, List.set_cons_succ]) | (refine ord_call hO _ ?_ (by simp only [List.getElem?_cons_succ, List.getElem?_cons_zero]; rfl) (by rfl) ?_ ?_; rotate_left; (· (intro u hu0 hu; go_simp; (try refine quiet_enter ?_); (first | with_reducible exact U1.out u (C1.out u hu0) | with_reducible exact U2.out u (C1.out u hu0) | with_reducible exact U3.out u (C1.out u hu0) | with_reducible exact U4.out u (C1.out u hu0)))); try simp only [Act.put, List.setIfInBounds_toArray, List.set_cons_zero, List.set_cons_succ]))
  refine ord_done (fun w3 hu => ?_)
  simp only [List.drop_succ_cons, List.drop_zero]
  have g3 : Grows w2 w3 := Grows.trans (Grows.refl w2).drew hu
  clear hO hu k1 k3 k4 ld C1 Gd
  go_wp2_with fail
  refine NoPanic.normal ?_
  go_wp2_with fail
  have hL := Lies.of_own ho
  have G3 := Grows.trans G2 g3
  have hb3 := hb2.later g3
  clear hne LS
  go_loopw [6] (fun i wr => ∃ k : Nat, k ≤ n ∧ i = .int .i64 (k : Int) ∧ Grows w3 wr) (fun i _ => n - (intOf i).toNat)
  case atStart => exact ⟨0, Nat.zero_le _, rfl, Grows.refl _⟩
  case round =>
    obtain ⟨k, hk, rfl, hg⟩ := hrel
    by_cases hlt : k < n
    · obtain ⟨x, hx⟩ : ∃ x, D.seen[k]? = some x := ⟨_, List.getElem?_eq_getElem (by rw [← HN.out]; exact hlt)⟩
      have Gw := Grows.trans G3 hg
      obtain ⟨ad, rfl, _, c1⟩ := (hL.later (Grows.trans g3 hg)).at_ (j := k) (u := tv x.1) (by rw [List.getElem?_map, List.getElem?_map, hx]; rfl)
      obtain ⟨gb, rfl, q0, _⟩ := (hs0.later Gw).at_ hx
      have hki : (k : Int) < (n : Int) := by omega
      have RA := R1.out wr Gw x.1
      have RB := fun u h => R2.out u h x.1
      generalize readD D x.1 = rd at *
      obtain ⟨y, r⟩ := rd
      obtain ⟨p, b⟩ := x
      simp only at RA RB q0 c1
      clear hx
      have RB2 := Lib.hid RB
      clear RB
      go_wp2_with fail
      refine RA.mono ?_
      rintro e w5 ⟨v5, rfl, F5, g5⟩
      have G5 := Grows.trans Gw g5
      have hb5 := hb3.later (Grows.trans hg g5)
      obtain ⟨A5, c5, rfl, _⟩ := F5.lies
      have k1 : ∀ u, Grows w5.drew u → u.cell? ⟨B, 1, none⟩ = some (.slice (some ⟨gb, 0, none⟩) n c) := fun u h => hcell_later (hb5.cell (k := 1) rfl) (Grows.trans (Grows.refl w5).drew h)
      have q5 := hcell_later q0 g5
      have s5 := hcell_later c1 g5
      have q6 : ∀ u, Grows w5.drew u → u.cell? ⟨gb, k * 2, none⟩ = some (tv p) := fun u h => hcell_later q5 (Grows.trans (Grows.refl w5).drew h)
      have ld : ∀ u, Grows w5.drew u → (Instr.loadAt 31 (.pointer (some ⟨B, 0, none⟩))).run Try.prog u = .ok (dV D (.slice (some ⟨gb, 0, none⟩) n c) lv (.slice Aw D.waits.length cw)) u := fun u h => (hb5.later (Grows.trans (Grows.refl w5).drew h)).load Try.underlying31 rfl d_size
      have RC : Hid (∀ u, Grows w5.drew u → Calls Try.prog 39 #[dV D (.slice (some ⟨gb, 0, none⟩) n c) lv (.slice Aw D.waits.length cw), tv p] u fun e w' => e = .returned (.tuple #[tv y, rv r]) ∧ Grows u w') := fun u h => RB2.out u (Grows.trans G5 (Grows.trans (Grows.refl w5).drew h))
      go_wp2_with fail
      refine wp_region_ord 13 [(0, true), (1, true), (2, true), (3, true), (4, true), (5, true), (6, true), (7, true), (8, true), (9, true), (10, true), (11, true), (12, true)] (by kernel_rfl) (by kernel_rfl) ?_
      have hO := Grows.refl w5.drew
      repeat (first | (refine ord_load hO _ _ (by simp only [List.getElem?_cons_succ, List.getElem?_cons_zero]; rfl) (by rfl) 31 (.tmp 3) (by rfl) _ (by rfl) ld ?_; try simp only [Act.put, List.setIfInBounds_toArray, List.set_cons_zero, List.set_cons_succ]) | (refine ord_take hO _ ?_ (by simp only [List.getElem?_cons_succ, List.getElem?_cons_zero]; rfl) (by rfl) ?_ ?_; rotate_left; (· (intro u hu0 hu; (try go_simp); (try with_reducible rfl))); try simp only [Act.put, List.setIfInBounds_toArray, List.set_cons_zero, List.set_cons_succ]) | (refine ord_skip _ (by simp only [List.getElem?_cons_succ, List.getElem?_cons_zero]; rfl) (by rfl) ?_; try simp only [Act.put, List.setIfInBounds_toArray, List.set_cons_zero, List.set_cons_succ]) | (refine ord_call hO _ ?_ (by simp only [List.getElem?_cons_succ, List.getElem?_cons_zero]; rfl) (by rfl) ?_ ?_; rotate_left; (· (intro u hu0 hu; go_simp; (try refine quiet_enter ?_); (with_reducible exact RC.out u hu0))); try simp only [Act.put, List.setIfInBounds_toArray, List.set_cons_zero, List.set_cons_succ]))
      refine ord_done (fun w6 hu => ?_)
      simp only [List.drop_succ_cons, List.drop_zero]
      have g6 : Grows w5 w6 := Grows.trans (Grows.refl w5).drew hu
      clear hO hu k1 q6 ld RC
      go_wp2_with fail
      refine NoPanic.normal ?_
      have hb6 := hb5.later g6
      have q6 := hcell_later q5 g6
      have s6 := hcell_later s5 g6
      have k1 : ∀ u, Grows w6.drew u → u.cell? ⟨B, 1, none⟩ = some (.slice (some ⟨gb, 0, none⟩) n c) := fun u h => hcell_later (hb6.cell (k := 1) rfl) (Grows.trans (Grows.refl w6).drew h)
      have q7 : ∀ u, Grows w6.drew u → u.cell? ⟨gb, k * 2, none⟩ = some (tv p) := fun u h => hcell_later q6 (Grows.trans (Grows.refl w6).drew h)
      have s7 : ∀ u, Grows w6.drew u → u.cell? (ad.add k) = some (tv p) := fun u h => hcell_later s6 (Grows.trans (Grows.refl w6).drew h)
      have cs : ∀ u, Grows w6.drew u → (convert 35 9 (.slice A5 y.length c5)).run Try.prog u = .ok (tv y) u := fun u h => ((F5.later g6).later (Grows.trans (Grows.refl w6).drew h)).text
      go_wp2_with fail
      refine wp_region_ord 22 [(0, true), (1, true), (2, true), (3, true), (4, true), (5, true), (6, true), (7, true), (8, true), (9, true), (10, true), (11, true), (12, true), (13, true), (14, true), (15, true), (16, true), (17, true), (18, true), (19, true), (20, true), (21, true)] (by kernel_rfl) (by kernel_rfl) ?_
      have hO := Grows.refl w6.drew
      repeat (first | (refine ord_take hO _ ?_ (by simp only [List.getElem?_cons_succ, List.getElem?_cons_zero]; rfl) (by rfl) ?_ ?_; rotate_left; (· (intro u hu0 hu; (try go_simp); (try with_reducible rfl))); try simp only [Act.put, List.setIfInBounds_toArray, List.set_cons_zero, List.set_cons_succ]) | (refine ord_skip _ (by simp only [List.getElem?_cons_succ, List.getElem?_cons_zero]; rfl) (by rfl) ?_; try simp only [Act.put, List.setIfInBounds_toArray, List.set_cons_zero, List.set_cons_succ]))
      refine ord_done (fun w7 hu => ?_)
      simp only [List.drop_succ_cons, List.drop_zero]
      have g7 : Grows w6 w7 := Grows.trans (Grows.refl w6).drew hu
      clear hO hu k1 q7 s7 cs
      go_wp2_with fail
      refine NoPanic.normal ?_
      go_wp2_with fail
      go_roundw
      case rel => exact ⟨k + 1, by omega, by go_num, Grows.trans hg (Grows.trans g5 (Grows.trans g6 g7))⟩
      case measure => simp [intOf]; omega
    · obtain rfl : k = n := by omega
      go_wp2_with fail
      go_ret
      exact ⟨rfl, Grows.trans G3 hg⟩
end Go.Proofs.Ytfcijeogkgbejaa

/-
  What disk tells, as a row of one's own (of L12B).
-/
namespace Go.Proofs.Ytfcijeogkgbejaa
open Go.RowKit
set_option linter.unusedVariables false
set_option maxRecDepth 20000

theorem fresh_own {w0 w : World} {base n : Nat} {v : Value} {l : Byts} (h : w.ownsRow base 5 1 v n (l.map bv)) (hb : w0.heap.size ≤ base) : Fresh w0 w v l := by
  have hl : l.length = n := by have := h.1; simpa using this
  subst hl
  rcases h.2 with ⟨rfl, h0⟩ | ⟨g, c, cur, rfl, hg, hh, hnc, hm, hs, ht⟩
  · exact .inl ⟨rfl, by simpa using h0⟩
  · have hc : ∀ j u, (l.map bv)[j]? = some u → w.cell? ⟨g, j, none⟩ = some u := fun j u hu => by
      have hj : j < l.length := by have := (List.getElem?_eq_some_iff.1 hu).1; simpa using this
      have := (Lies.of_own h) j u hu
      obtain ⟨ad, e, _, hcl⟩ := this
      injection e with e
      rw [← e, add_plain, Nat.zero_add] at hcl
      exact hcl
    exact .inr ⟨g, c, rfl, hnc, hm, by omega, hc, fun j hj => by simp [World.frozen?, hh]⟩
theorem Fresh.set {w0 w : World} {g c : Nat} {l : Byts} (h : Fresh w0 w (.slice (some ⟨g, 0, none⟩) l.length c) l) {k : Nat} (hk : k < l.length) (z : UInt8) : Fresh w0 (w.setCell ⟨g, k, none⟩ (bv z)) (.slice (some ⟨g, 0, none⟩) l.length c) (l.set k z) := by
  rcases h with ⟨e, rfl⟩ | ⟨g', c', e, h1, h2, h3, h4, h5⟩
  · simp at hk
  · injection e with e1 _ e3
    injection e1 with e1
    injection e1 with e1
    subst e1 e3
    refine .inr ⟨g, c, by rw [List.length_set], by rw [List.length_set]; exact h1, h2, h3, fun j u hu => ?_, fun j hj => ?_⟩
    · rw [List.map_set] at hu
      have hj : j < l.length := by have := (List.getElem?_eq_some_iff.1 hu).1; simpa using this
      have hc := h4 j _ (List.getElem?_eq_getElem (by simpa using hj))
      by_cases hjk : k = j
      · subst hjk
        rw [List.getElem?_set_self (by simpa using hk)] at hu
        injection hu with hu
        subst hu
        exact World.cell?_setCell_same w _ _ hc
      · rw [List.getElem?_set_ne hjk, List.getElem?_eq_getElem (by simpa using hj)] at hu
        injection hu with hu
        subst hu
        rw [World.cell?_setCell_other w _ _ _ (by intro e; injection e with _ e; exact hjk e)]
        exact hc
    · rw [World.frozen?_setCell]
      exact h5 j (by simpa using hj)
theorem Fresh.at_ {w0 w : World} {v : Value} {l : Byts} (h : Fresh w0 w v l) {k : Nat} (hk : k < l.length) : ∃ g c x, v = .slice (some ⟨g, 0, none⟩) l.length c ∧ w0.heap.size ≤ g ∧ g < w.heap.size ∧ l[k]? = some x ∧ w.cell? ⟨g, k, none⟩ = some (bv x) ∧ w.frozen? ⟨g, k, none⟩ = false := by
  rcases h with ⟨rfl, rfl⟩ | ⟨g, c, rfl, h1, h2, h3, h4, h5⟩
  · simp at hk
  · have hx := h4 k (bv l[k]) (by rw [List.getElem?_map, List.getElem?_eq_getElem hk]; rfl)
    exact ⟨g, c, l[k], rfl, h3, World.block_lt_of_cell? w _ hx, List.getElem?_eq_getElem hk, hx, h5 k hk⟩
theorem Fresh.form {w0 w : World} {v : Value} {l : Byts} (h : Fresh w0 w v l) : ∃ A c, v = .slice A l.length c := by
  rcases h with ⟨rfl, rfl⟩ | ⟨g, c, rfl, _⟩
  · exact ⟨none, 0, rfl⟩
  · exact ⟨_, _, rfl⟩
set_option maxHeartbeats 400000 in
theorem short_any (l : List UInt8) (m : Nat) (w : World) (hm : m ≤ 1000000) :
    Calls Try.prog 16 #[tv l, .int .i64 (m : Int)] w fun e w' => e = .returned (tv (l.take m)) ∧ Grows w w' := by
  have hsz := size_mk l
  by_cases h : m < l.length
  · have h' : (m : Int) < (l.length : Int) := by omega
    have ct : ∀ u, (Instr.slice 9 (tv l) none (some (.int .i64 (m : Int))) none).run Try.prog u = .ok (tv (l.take m)) u := fun u => by
      rw [run_slice_string_to_if u 9 _ .i64 (m : Int) Try.underlying9, if_pos ⟨by omega, by rw [size_mk]; omega⟩, tcut]
      rfl
    generalize l.take m = R at *
    go_enter Try.func16, Try.ntmps16
    go_wp2
    go_ret
    exact ⟨rfl, Grows.refl _⟩
  · have h' : ¬ (m : Int) < (l.length : Int) := by omega
    rw [List.take_of_length_le (by omega)]
    go_enter Try.func16, Try.ntmps16
    go_wp2
    go_ret
    exact ⟨rfl, Grows.refl _⟩

end Go.Proofs.Ytfcijeogkgbejaa

/-
  Contract of the reference's Fill: so many bytes, whatever bytes they are made of.
-/
namespace Go.Proofs.Ytfcijeogkgbejaa
open Go.RowKit
set_option linter.unusedVariables false
set_option maxRecDepth 20000

set_option maxHeartbeats 1000000 in
theorem fill_own (A : Option Addr) (n c m : Nat) (bs : List UInt8) (w : World) (hl : bs.length = n) (hr : Lies w w.heap.size A (bs.map bv)) (hn : n ≤ maxLen) (hm : m ≤ 1000000) :
    Calls Try.prog 15 #[.slice A n c, .int .i64 (m : Int)] w fun e w' => ∃ (l : List UInt8) (A' : Option Addr) (c' : Nat), l.length = m ∧ e = .returned (.slice A' m c') ∧ m ≤ c' ∧ c' ≤ maxLen ∧ w'.ownsRow w.heap.size 5 1 (.slice A' m c') m (l.map bv) ∧ Below w.heap.size w w' := by
  unfold maxLen at hn
  obtain ⟨i0, hi0, hz0, hz1, hz2⟩ := info_parts byte_info
  have HL := Lib.hid hl
  clear hl
  go_enter Try.func15, Try.ntmps15
  go_wp2
  go_loopw [5, 6] (fun v i wr => ∃ (k : Nat) (l : List UInt8), k ≤ m ∧ l.length = k ∧ i = .int .i64 k ∧ wr.ownsRow w.heap.size 5 1 v k (l.map bv) ∧ Grows w wr) (fun _ i _ => m - (intOf i).toNat)
  case atStart => exact ⟨0, [], Nat.zero_le _, rfl, rfl, World.ownsRow_nil _ _ _ _, Grows.refl _⟩
  case round =>
    obtain ⟨k, l, hk, hlk, rfl, hown, hgr⟩ := hrel
    have HK := Lib.hid hlk
    clear hlk
    by_cases hlt : k < m
    · by_cases hn0 : 0 < n
      · have hnz : ((n : Int) == 0) = false := by simp; omega
        have hkn : k % n < n := Nat.mod_lt _ hn0
        obtain ⟨x, hx⟩ : ∃ x, bs[k % n]? = some x := ⟨_, List.getElem?_eq_getElem (by rw [HL.out]; exact hkn)⟩
        obtain ⟨ad, rfl, _, cx⟩ := (hr.later hgr).at_ (j := k % n) (u := bv x) (by rw [List.getElem?_map, hx]; rfl)
        have hnew := Lies.new wr 5 [bv x]
        clear hx
        have r0 : (0 : Int) ≤ (k : Int) % (n : Int) := Int.emod_nonneg _ (by omega)
        have r1 : (k : Int) % (n : Int) < (n : Int) := Int.emod_lt_of_pos _ (by omega)
        have r2 : ((k : Int) % (n : Int)).toNat = k % n := by omega
        go_wp2_with (at_builtin; refine wpList_append_src _ rfl (.tmp 15) (.tmp 23) _ rfl w.heap.size 5 i0 _ 1 Try.underlying35 hi0 hz0 hz1 hz2 rfl u5 k _ rfl (hown.alloc _) _ _ 1 1 [bv x] rfl rfl hnew (by simp [Value.oneCell']) (by unfold maxLen; omega) (by omega) (by rw [World.size_alloc]; have := hgr.size; omega) ?_; intro v' w' hown' hg' hat')
        have hb2 : Below w.heap.size wr w' := ((Below.refl _ wr).alloc hgr.size _).grown hg' (by rw [World.size_alloc]; have := hgr.size; omega) (own_ge hown)
        rw [show [bv x] = [x].map bv from rfl, ← List.map_append] at hown'
        go_roundw
        case rel => exact ⟨k + 1, l ++ [x], by omega, by simp [HK.out], by go_num, hown', Below.trans hgr hb2⟩
        case measure => simp [intOf]; omega
      · obtain rfl : n = 0 := by omega
        have hnew := Lies.new wr 5 [bv 0]
        go_wp2_with (at_builtin; refine wpList_append_src _ rfl (.tmp 25) (.tmp 26) _ rfl w.heap.size 5 i0 _ 1 Try.underlying35 hi0 hz0 hz1 hz2 rfl u5 k _ rfl (hown.alloc _) _ _ 1 1 [bv 0] rfl rfl hnew (by simp [Value.oneCell']) (by unfold maxLen; omega) (by omega) (by rw [World.size_alloc]; have := hgr.size; omega) ?_; intro v' w' hown' hg' hat')
        have hb2 : Below w.heap.size wr w' := ((Below.refl _ wr).alloc hgr.size _).grown hg' (by rw [World.size_alloc]; have := hgr.size; omega) (own_ge hown)
        rw [show [bv 0] = [(0 : UInt8)].map bv from rfl, ← List.map_append] at hown'
        go_roundw
        case rel => exact ⟨k + 1, l ++ [0], by omega, by simp [HK.out], by go_num, hown', Below.trans hgr hb2⟩
        case measure => simp [intOf]; omega
    · obtain rfl : k = m := by omega
      have hown0 := hown
      obtain ⟨A', c', rfl, hc⟩ := own_form hown
      have hcm : c' ≤ maxLen := by
        rcases hown.2 with ⟨e, _⟩ | ⟨g, cap, cur, e, _, _, _, h4, _⟩
        · injection e with _ _ e; omega
        · injection e with _ _ e; subst e; first | exact h4 | omega
      go_wp2
      go_ret
      exact ⟨l, A', c', HK.out, rfl, hc, hcm, hown, hgr⟩

theorem fill_any (A : Option Addr) (n c m : Nat) (bs : List UInt8) (w : World) (hl : bs.length = n) (hr : Lies w w.heap.size A (bs.map bv)) (hn : n ≤ maxLen) (hm : m ≤ 1000000) :
    Calls Try.prog 15 #[.slice A n c, .int .i64 (m : Int)] w fun e w' => ∃ (l : List UInt8) (A' : Option Addr) (c' : Nat), l.length = m ∧ e = .returned (.slice A' m c') ∧ m ≤ c' ∧ c' ≤ maxLen ∧ Lies w' w'.heap.size A' (l.map bv) ∧ Below w.heap.size w w' := by
  refine (fill_own A n c m bs w hl hr hn hm).mono ?_
  rintro e w' ⟨l, A', c', h1, h2, h3, h4, h5, h6⟩
  exact ⟨l, A', c', h1, h2, h3, h4, Lies.of_own h5, h6⟩
end Go.Proofs.Ytfcijeogkgbejaa

/-
  A region that draws its order (of no program), of which two operations that both make memory may come up in either order ahead of its tail.
-/
namespace Go.Proofs.Ytfcijeogkgbejaa
open Go.RowKit
set_option linter.unusedVariables false
set_option maxRecDepth 20000

section
variable {P : Program} {md : Region.Mode} {ops : Array Oper} {Q : Exit → Act → World → Prop}

theorem ord_nil_eq (E : Act → World → Prop) (a : Act) (w : World) : wpOrd P ops Q E [] a w = ∀ u, Grows w u → E a u := by with_unfolding_all rfl
theorem ord_take_eq (E : Act → World → Prop) (i : Nat) (s : List (Nat × Bool)) (a : Act) (w : World) : wpOrd P ops Q E ((i, true) :: s) a w = ∃ o v, ops[i]? = some o ∧ YieldsG P ops w o v a ∧ wpOrd P ops Q E s (a.put o.dst v) w := by with_unfolding_all rfl
theorem ord_move_eq (E : Act → World → Prop) (i : Nat) (s : List (Nat × Bool)) (a : Act) (w : World) : wpOrd P ops Q E ((i, false) :: s) a w = ∀ u, Grows w u → wpOp P ops Q i (fun a' u' => Grows u u' ∧ wpOrd P ops Q E s a' u') a u := by with_unfolding_all rfl
/-- The two, each ahead of the other. -/
def bothB (md : Region.Mode) (ops : Array Oper) (n g i j : Nat) (listed : Array Bool) : Bool :=
  decide (i < n) && decide (j < n) && decide (i ≠ j) && (Region.ready md ops listed == [i, j]) && (Region.ready md ops (listed.setIfInBounds i true) == [j]) && (Region.ready md ops (listed.setIfInBounds j true) == [i]) && Region.seqB md ops g n ((listed.setIfInBounds i true).setIfInBounds j true)
def ordB2 (md : Region.Mode) (ops : Array Oper) (n g i j : Nat) : List (Nat × Bool) → Array Bool → Bool
  | [], listed => bothB md ops n g i j listed
  | (k, true) :: s, listed => decide (k < n) && (Region.ready md ops listed).contains k && Region.free md ops listed k && ordB2 md ops n g i j s (listed.setIfInBounds k true)
  | (k, false) :: s, listed => decide (k < n) && (Region.ready md ops listed == [k]) && ordB2 md ops n g i j s (listed.setIfInBounds k true)
/-- One, then the other. -/
def wpThen (P : Program) (ops : Array Oper) (Q : Exit → Act → World → Prop) (E : Act → World → Prop) (i j : Nat) (a : Act) (u : World) : Prop :=
  wpOp P ops Q i (fun a' u' => Grows u u' ∧ ∀ u2, Grows u' u2 → wpOp P ops Q j (fun a2 u3 => Grows u2 u3 ∧ ∀ u4, Grows u3 u4 → E a2 u4) a' u2) a u

theorem wpAnyU_then {n g i j : Nat} {E : Act → World → Prop} {listed : Array Bool} {a : Act} {w : World} (hi : i < n) (hj : j < n) (h1 : Region.ready md ops (listed.setIfInBounds i true) = [j]) (h2 : Region.seqB md ops g n ((listed.setIfInBounds i true).setIfInBounds j true) = true)
    (h : ∀ u, Grows w u → wpThen P ops Q E i j a u) : ∀ u, Grows w u → wpOp P ops Q i (fun a' u' => Grows u u' ∧ wpAnyU P md ops Q n (fun listed' a' w' => Region.seqB md ops g n listed' = true ∧ ∀ u, Grows w' u → E a' u) 1 (listed.setIfInBounds i true) a' u') a u := fun u hu => by
  refine wpOp_mono (fun a' u' h3 => ⟨h3.1, ?_, fun k hk => ?_⟩) (h u hu)
  · rw [h1]; simp
  · rw [h1] at hk
    obtain rfl : k = j := by simpa using hk
    exact ⟨hj, fun u2 hu2 => wpOp_mono (fun a2 u3 h4 => ⟨h4.1, h2, h4.2⟩) (h3.2 u2 hu2)⟩

theorem wpAnyU_of_ord2 {n g i j : Nat} {E : Act → World → Prop} (hs : Region.noSelect ops = true) (hQ : ∀ c a d v w, Q (.panic c) (Act.put a d v) w → Q (.panic c) a w)
    (hwait : ∀ i, i < n → ∀ listed, HeadInv md ops n listed → listed.getD i true = false → ∀ j ∈ Region.ready md ops listed, j < n) :
    ∀ (s : List (Nat × Bool)) (listed : Array Bool) (a : Act) (w : World), HeadInv md ops n listed → ordB2 md ops n g i j s listed = true → wpOrd P ops Q (fun a u => wpThen P ops Q E i j a u ∧ wpThen P ops Q E j i a u) s a w →
      wpAnyU P md ops Q n (fun listed' a' w' => Region.seqB md ops g n listed' = true ∧ ∀ u, Grows w' u → E a' u) (s.length + 2) listed a w
  | [], listed, a, w, inv, hB, h => by
    simp only [ordB2, bothB, Bool.and_eq_true, decide_eq_true_eq, beq_iff_eq] at hB
    obtain ⟨⟨⟨⟨⟨⟨hin, hjn⟩, hne⟩, hr⟩, hri⟩, hrj⟩, hsq⟩ := hB
    rw [ord_nil_eq] at h
    refine ⟨by rw [hr]; simp, fun k hk => ?_⟩
    rw [hr] at hk
    rcases List.mem_cons.1 hk with rfl | hk
    · exact ⟨hin, wpAnyU_then hin hjn hri hsq (fun u hu => (h u hu).1)⟩
    · obtain rfl : k = j := by simpa using hk
      exact ⟨hjn, wpAnyU_then hjn hin hrj (by rw [Array.setIfInBounds_comm _ _ hne] at hsq; exact hsq) (fun u hu => (h u hu).2)⟩
  | (k, true) :: s, listed, a, w, inv, hB, h => by
    simp only [ordB2, Bool.and_eq_true, decide_eq_true_eq] at hB
    obtain ⟨⟨⟨hin, hr⟩, hf⟩, hB'⟩ := hB
    rw [ord_take_eq] at h
    obtain ⟨o, v, ho, hy, h'⟩ := h
    have hr' : k ∈ Region.ready md ops listed := by simpa using hr
    exact wpAnyU_first ho (Region.noSelect_spec hs) (fun c a w => hQ c a o.dst v w) hin (hwait k hin) (fun _ _ _ _ hg hl => ⟨hl.1, fun u hu => hl.2 u (Grows.trans hg hu)⟩) (fun _ _ _ hl => seqB_ready hl.1)
      (s.length + 2) listed a w inv (Region.free_spec ho hf) hr' hy (wpAnyU_of_ord2 hs hQ hwait s _ _ w (inv.set hr' hin) hB' h')
  | (k, false) :: s, listed, a, w, inv, hB, h => by
    simp only [ordB2, Bool.and_eq_true, decide_eq_true_eq] at hB
    obtain ⟨⟨hin, hr⟩, hB'⟩ := hB
    rw [ord_move_eq] at h
    have hr' : Region.ready md ops listed = [k] := by simpa using hr
    have hm : k ∈ Region.ready md ops listed := by rw [hr']; simp
    refine ⟨fun h0 => (by rw [hr'] at h0; cases h0), fun j hj => ?_⟩
    rw [hr'] at hj
    have hji : j = k := by simpa using hj
    subst hji
    exact ⟨hin, fun u hu => wpOp_mono (fun a' w' h' => ⟨h'.1, wpAnyU_of_ord2 hs hQ hwait s _ a' w' (inv.set hm hin) hB' h'.2⟩) (h u hu)⟩

def ordWholeB2 (ops : Array Oper) (n i j : Nat) (s : List (Nat × Bool)) : Bool :=
  Region.noSelect ops && decide (n ≤ ops.size) && (decide (n = ops.size) || (Region.sinkB .any ops n && Region.chainB .any ops n)) && (s.length + 2 == n) && ordB2 .any ops n (ops.size - n) i j s (Array.replicate ops.size false)

/-- THE RULE. -/
theorem wp_region_ord2 {id : Nat} {a : Act} {w : World} {l : List Oper} (n i j : Nat) (s : List (Nat × Bool)) (hm : P.follows .mixedOrders = true) (hB : ordWholeB2 l.toArray n i j s = true)
    (h : wpOrd P l.toArray (NoPanic Q) (fun a u => wpThen P l.toArray (NoPanic Q) (fun a' u => wpList P l.toArray (NoPanic Q) (l.drop n) a' u) i j a u ∧ wpThen P l.toArray (NoPanic Q) (fun a' u => wpList P l.toArray (NoPanic Q) (l.drop n) a' u) j i a u) s a w.drew) : (Code.region id l.toArray true).wp P Q a w := by
  simp only [ordWholeB2, Bool.and_eq_true, decide_eq_true_eq, Bool.or_eq_true, beq_iff_eq] at hB
  obtain ⟨⟨⟨⟨hsel, hn⟩, hc⟩, hl⟩, hord⟩ := hB
  have hdl : (l.drop n).length = l.toArray.size - n := by simp
  have inv0 : HeadInv .any l.toArray n (Array.replicate l.toArray.size false) :=
    ⟨by simp, fun j oj _ hl => (by rw [getD_replicate_false] at hl; cases hl), fun t _ ht => getD_in (by simpa using ht) (getD_replicate_false _ _)⟩
  have hwait : ∀ i, i < n → ∀ listed, HeadInv .any l.toArray n listed → listed.getD i true = false → ∀ j ∈ Region.ready .any l.toArray listed, j < n := fun i hi listed inv hun j hj => by
    rcases hc with hc | ⟨hs, hch⟩
    · obtain ⟨_, oj, hoj, _⟩ := mem_ready.1 hj
      have := (Array.getElem?_eq_some_iff.1 hoj).1
      omega
    · rcases Nat.lt_or_ge j n with h | h
      · exact h
      · have hjs : j < l.toArray.size := by
          obtain ⟨_, oj, hoj, _⟩ := mem_ready.1 hj
          exact (Array.getElem?_eq_some_iff.1 hoj).1
        exact absurd hj (tail_waits hs hch (by omega) inv _ i rfl hi hun j h)
  refine wp_region_noPanic (wp_region_any hm ?_)
  have H := wpAnyU_of_ord2 (md := .any) (g := l.toArray.size - n) (Q := NoPanic Q) hsel (fun c a d v w h => h) hwait s _ a w.drew inv0 hord h
  have := wpAny_of_U (Q := NoPanic Q) (g := l.toArray.size - n) (fun listed a' w' hL => by
    have := wpAny_of_seq (md := .any) (Q' := NoPanic Q) (l.drop n) n listed a' w' (fun j => by simp [List.getElem?_drop]) (by rw [hdl]; exact hL.1) (hL.2 w' (Grows.refl _))
    rwa [hdl] at this) _ _ _ _ H
  rw [hl, show n + (l.toArray.size - n) = l.toArray.size by omega] at this
  exact this
/-- One of the two. -/
theorem op_move {l : List Oper} {i : Nat} {a : Act} {u : World} {R : Act → World → Prop} (o : Oper) (ho : l[i]? = some o) (hw : Region.wanted o (yielded l.toArray a.tmps) = true)
    (h : ∀ K : Act → World → Prop, Shut (∀ a' u', R a' u' → K a' u') → Oper.wp P o a u K Q) : wpOp P l.toArray Q i R a u := by
  refine wpOp_step (by simpa using ho) fun K hK => ?_
  rw [if_pos hw]
  exact h K fun a' w' hr => hK a' w' hr
end
end Go.Proofs.Ytfcijeogkgbejaa

/-
  A region that draws its order (of no program), walked by a tree of orders to its very end: readers and calls that yield one value as soon as they may come up (while one is not yet done, no store comes up); operations that read no memory as soon as they may come up, stores or not; makers of memory and stores where nothing else may come up, or, of two of them, both ways.
-/
namespace Go.Proofs.Ytfcijeogkgbejaa
open Go.RowKit
set_option linter.unusedVariables false
set_option maxRecDepth 20000

inductive OV where
  | done
  | take (i : Nat) (t : OV)
  | pure (i : Nat) (t : OV)
  | move (i : Nat) (t : OV)
  | both (i j : Nat) (t1 t2 : OV)
section
variable {P : Program} {md : Region.Mode} {ops : Array Oper} {Q : Exit → Act → World → Prop} {n : Nat}

/-- Whatever order is picked; behind every operation ahead of number n the world has but grown. -/
def wpV (P : Program) (md : Region.Mode) (ops : Array Oper) (Q : Exit → Act → World → Prop) (n : Nat) : Nat → Array Bool → Act → World → Prop
  | 0, listed, a, w => Region.ready md ops listed = [] ∧ ∀ u, Grows w u → Q .normal a u
  | f + 1, listed, a, w => Region.ready md ops listed ≠ [] ∧ ∀ i ∈ Region.ready md ops listed, ∀ u, Grows w u → wpOp P ops Q i (fun a' u' => (i < n → Grows u u') ∧ wpV P md ops Q n f (listed.setIfInBounds i true) a' u') a u
theorem wpV_later : ∀ (f : Nat) (listed : Array Bool) (a : Act) (w w' : World), Grows w w' → wpV P md ops Q n f listed a w → wpV P md ops Q n f listed a w'
  | 0, _, _, _, _, hg, h => ⟨h.1, fun u hu => h.2 u (Grows.trans hg hu)⟩
  | _ + 1, _, _, _, _, hg, h => ⟨h.1, fun i hi u hu => h.2 i hi u (Grows.trans hg hu)⟩
theorem wpAny_of_V : ∀ (f : Nat) (listed : Array Bool) (a : Act) (w : World), wpV P md ops Q n f listed a w → wpAny P md ops Q f listed a w
  | 0, _, _, w, h => ⟨h.1, h.2 w (Grows.refl w)⟩
  | f + 1, _, _, w, h => ⟨fun h0 => absurd h0 h.1, fun i hi => wpOp_mono (fun a' w' h' => wpAny_of_V f _ a' w' h'.2) (h.2 i hi w (Grows.refl w))⟩

theorem wpV_first {i : Nat} {oi : Oper} {v : Value} (hi : ops[i]? = some oi) (hsel : ∀ (j : Nat) (o : Oper) cs b, ops[j]? = some o → o.op ≠ .select cs b)
    (hQ : ∀ c a w, Q (.panic c) (a.put oi.dst v) w → Q (.panic c) a w) (hwait : ∀ listed : Array Bool, listed.getD i true = false → ∀ j ∈ Region.ready md ops listed, j < n) :
    ∀ (f : Nat) (listed : Array Bool) (a : Act) (w : World),
      (∀ j oj, ops[j]? = some oj → j ≠ i → listed.getD j true = false → (∀ e ∈ oj.after, Region.binds md e = true → e.on ≠ i) → oi.apart ops oj = true) →
      i ∈ Region.ready md ops listed → YieldsG P ops w oi v a →
      wpV P md ops Q n f (listed.setIfInBounds i true) (a.put oi.dst v) w → wpV P md ops Q n (f + 1) listed a w := by
  intro f
  induction f with
  | zero =>
    intro listed a w _ hr hy H
    refine ⟨fun h => (by rw [h] at hr; cases hr), fun j hj u hu => ?_⟩
    by_cases hji : j = i
    · subst hji
      exact hy.wpOp hi hu fun u' hu' => ⟨fun _ => hu', wpV_later 0 _ _ _ _ (Grows.trans hu hu') H⟩
    · have h1 := ready_mono hj hji
      rw [H.1] at h1
      cases h1
  | succ f ih =>
    intro listed a w hfree hr hy H
    have hun := (mem_ready.1 hr).1
    refine ⟨fun h => (by rw [h] at hr; cases hr), fun j hj u hu => ?_⟩
    by_cases hji : j = i
    · subst hji
      exact hy.wpOp hi hu fun u' hu' => ⟨fun _ => hu', wpV_later _ _ _ _ _ (Grows.trans hu hu') H⟩
    · have h1 := H.2 j (ready_mono hj hji) u hu
      obtain ⟨hjun, oj, hoj, hall⟩ := mem_ready.1 hj
      have hnot : ∀ e ∈ oj.after, Region.binds md e = true → e.on ≠ i := fun e he hb heq => by
        have h1 := hall e he hb
        rw [heq, getD_both hun] at h1
        cases h1
      have h2 := wpOp_beside hoj (hfree j oj hoj hji hjun hnot) (fun cs b => hsel i oi cs b hi) (fun cs b => hsel j oj cs b hoj) hQ hy h1
      have hfree' : ∀ k ok, ops[k]? = some ok → k ≠ i → (listed.setIfInBounds j true).getD k true = false →
          (∀ e ∈ ok.after, Region.binds md e = true → e.on ≠ i) → oi.apart ops ok = true := fun k ok hk hki hun' hno => by
        refine hfree k ok hk hki ?_ hno
        by_cases hjk : j = k
        · subst hjk; exact hjun
        · rwa [getD_set_ne true hjk] at hun'
      refine wpOp_mono (fun a' u' h3 => ?_) h2
      have hg := h3.2.1 (hwait listed hun j hj)
      refine ⟨fun _ => hg, ih (listed.setIfInBounds j true) a' u' hfree' (ready_mono hr (Ne.symm hji)) (h3.1.later (Grows.trans hu hg)) ?_⟩
      rw [Array.setIfInBounds_comm _ _ hji]
      exact h3.2.2
/-- An operation that reads no memory, beside any other. -/
theorem wpOp_beside_pure {j : Nat} {oi oj : Oper} {v : Value} (hj : ops[j]? = some oj) (hap : oi.apart ops oj = true)
    (hsi : ∀ cs b, oi.op ≠ .select cs b) (hsj : ∀ cs b, oj.op ≠ .select cs b)
    (hQ : ∀ c a w, Q (.panic c) (a.put oi.dst v) w → Q (.panic c) a w) {K : Act → World → Prop} {a : Act} {u : World}
    (hy : ∀ w, YieldsG P ops w oi v a) (h : wpOp P ops Q j K (a.put oi.dst v) u) :
    wpOp P ops Q j (fun a' u' => (∀ w, YieldsG P ops w oi v a') ∧ K (a'.put oi.dst v) u') a u := by
  have h1 := wpOp_putIf (S := fun _ => False) hj hap hsi hsj hQ ((hy u).imp (fun ⟨h1, _⟩ => ⟨h1, fun _ h => h.elim⟩) id) h
  obtain ⟨_, _, h3⟩ := Oper.apart_spec hap
  refine wpOp_mono (fun a' u' h2 => ⟨h2.1, h2.2.2⟩) (wpOp_kept (Y := fun a' => ∀ w, YieldsG P ops w oi v a') hj (fun ds x w => ?_) h1)
  exact YieldsG.same (a := { a with defers := ds }) ((hy w).same rfl rfl) (execOp_put oi hsi _ oj.dst x h3) (wanted_put oi _ oj.dst x h3)
theorem wpV_pure {i : Nat} {oi : Oper} {v : Value} (hi : ops[i]? = some oi) (hsel : ∀ (j : Nat) (o : Oper) cs b, ops[j]? = some o → o.op ≠ .select cs b)
    (hQ : ∀ c a w, Q (.panic c) (a.put oi.dst v) w → Q (.panic c) a w) :
    ∀ (f : Nat) (listed : Array Bool) (a : Act) (w : World),
      (∀ j oj, ops[j]? = some oj → j ≠ i → listed.getD j true = false → (∀ e ∈ oj.after, Region.binds md e = true → e.on ≠ i) → oi.apart ops oj = true) →
      i ∈ Region.ready md ops listed → (∀ w, YieldsG P ops w oi v a) →
      wpV P md ops Q n f (listed.setIfInBounds i true) (a.put oi.dst v) w → wpV P md ops Q n (f + 1) listed a w := by
  intro f
  induction f with
  | zero =>
    intro listed a w _ hr hy H
    refine ⟨fun h => (by rw [h] at hr; cases hr), fun j hj u hu => ?_⟩
    by_cases hji : j = i
    · subst hji
      exact (hy w).wpOp hi hu fun u' hu' => ⟨fun _ => hu', wpV_later 0 _ _ _ _ (Grows.trans hu hu') H⟩
    · have h1 := ready_mono hj hji
      rw [H.1] at h1
      cases h1
  | succ f ih =>
    intro listed a w hfree hr hy H
    have hun := (mem_ready.1 hr).1
    refine ⟨fun h => (by rw [h] at hr; cases hr), fun j hj u hu => ?_⟩
    by_cases hji : j = i
    · subst hji
      exact (hy w).wpOp hi hu fun u' hu' => ⟨fun _ => hu', wpV_later _ _ _ _ _ (Grows.trans hu hu') H⟩
    · have h1 := H.2 j (ready_mono hj hji) u hu
      obtain ⟨hjun, oj, hoj, hall⟩ := mem_ready.1 hj
      have hnot : ∀ e ∈ oj.after, Region.binds md e = true → e.on ≠ i := fun e he hb heq => by
        have h1 := hall e he hb
        rw [heq, getD_both hun] at h1
        cases h1
      have h2 := wpOp_beside_pure hoj (hfree j oj hoj hji hjun hnot) (fun cs b => hsel i oi cs b hi) (fun cs b => hsel j oj cs b hoj) hQ hy h1
      have hfree' : ∀ k ok, ops[k]? = some ok → k ≠ i → (listed.setIfInBounds j true).getD k true = false →
          (∀ e ∈ ok.after, Region.binds md e = true → e.on ≠ i) → oi.apart ops ok = true := fun k ok hk hki hun' hno => by
        refine hfree k ok hk hki ?_ hno
        by_cases hjk : j = k
        · subst hjk; exact hjun
        · rwa [getD_set_ne true hjk] at hun'
      refine wpOp_mono (fun a' u' h3 => ⟨h3.2.1, ih (listed.setIfInBounds j true) a' u' hfree' (ready_mono hr (Ne.symm hji)) h3.1 ?_⟩) h2
      rw [Array.setIfInBounds_comm _ _ hji]
      exact h3.2.2

/-- Every operation from number n on waits for i. -/
def waitB (md : Region.Mode) (ops : Array Oper) (n i : Nat) : Bool := (List.range ops.size).all fun t => decide (t < n) || (match ops[t]? with | some o => o.after.any (fun e => Region.binds md e && e.on == i) | none => true)
theorem waitB_spec {i : Nat} (h : waitB md ops n i = true) (listed : Array Bool) (hun : listed.getD i true = false) : ∀ j ∈ Region.ready md ops listed, j < n := fun j hj => by
  obtain ⟨_, oj, hoj, hall⟩ := mem_ready.1 hj
  have hlt := (Array.getElem?_eq_some_iff.1 hoj).1
  have h1 := (List.all_eq_true.1 h) j (List.mem_range.2 hlt)
  rw [hoj] at h1
  simp only [Bool.or_eq_true, decide_eq_true_eq] at h1
  rcases h1 with h1 | h1
  · exact h1
  · obtain ⟨k, hk, he⟩ := Array.any_eq_true.1 h1
    simp only [Bool.and_eq_true, beq_iff_eq] at he
    have h2 := hall _ (Array.getElem_mem hk) he.1
    rw [he.2, getD_both hun] at h2
    cases h2
def ovB (md : Region.Mode) (ops : Array Oper) (n : Nat) : OV → Nat → Array Bool → Bool
  | .done, f, listed => decide (f = 0) && (Region.ready md ops listed).isEmpty
  | .take i t, f, listed => decide (0 < f) && (Region.ready md ops listed).contains i && Region.free md ops listed i && waitB md ops n i && ovB md ops n t (f - 1) (listed.setIfInBounds i true)
  | .pure i t, f, listed => decide (0 < f) && (Region.ready md ops listed).contains i && Region.free md ops listed i && ovB md ops n t (f - 1) (listed.setIfInBounds i true)
  | .move i t, f, listed => decide (0 < f) && (Region.ready md ops listed == [i]) && ovB md ops n t (f - 1) (listed.setIfInBounds i true)
  | .both i j t1 t2, f, listed => decide (0 < f) && (Region.ready md ops listed == [i, j]) && ovB md ops n t1 (f - 1) (listed.setIfInBounds i true) && ovB md ops n t2 (f - 1) (listed.setIfInBounds j true)
def wpOV (P : Program) (ops : Array Oper) (Q : Exit → Act → World → Prop) (n : Nat) : OV → Act → World → Prop
  | .done, a, w => ∀ u, Grows w u → Q .normal a u
  | .take i t, a, w => ∃ o v, ops[i]? = some o ∧ YieldsG P ops w o v a ∧ wpOV P ops Q n t (a.put o.dst v) w
  | .pure i t, a, w => ∃ o v, ops[i]? = some o ∧ (∀ w', YieldsG P ops w' o v a) ∧ wpOV P ops Q n t (a.put o.dst v) w
  | .move i t, a, w => ∀ u, Grows w u → wpOp P ops Q i (fun a' u' => (i < n → Grows u u') ∧ wpOV P ops Q n t a' u') a u
  | .both i j t1 t2, a, w => (∀ u, Grows w u → wpOp P ops Q i (fun a' u' => (i < n → Grows u u') ∧ wpOV P ops Q n t1 a' u') a u) ∧ (∀ u, Grows w u → wpOp P ops Q j (fun a' u' => (j < n → Grows u u') ∧ wpOV P ops Q n t2 a' u') a u)

theorem wpV_of_OV (hs : Region.noSelect ops = true) (hQ : ∀ c a d v w, Q (.panic c) (Act.put a d v) w → Q (.panic c) a w) :
    ∀ (t : OV) (f : Nat) (listed : Array Bool) (a : Act) (w : World), ovB md ops n t f listed = true → wpOV P ops Q n t a w → wpV P md ops Q n f listed a w := by
  intro t
  induction t with
  | done =>
    intro f listed a w hB h
    simp only [ovB, Bool.and_eq_true, decide_eq_true_eq] at hB
    obtain ⟨rfl, hB⟩ := hB
    exact ⟨by simpa using hB, h⟩
  | take i t ih =>
    intro f listed a w hB h
    simp only [ovB, Bool.and_eq_true, decide_eq_true_eq] at hB
    obtain ⟨⟨⟨⟨h0, hr⟩, hf⟩, hw⟩, hB'⟩ := hB
    obtain ⟨o, v, ho, hy, h'⟩ := h
    obtain ⟨f, rfl⟩ : ∃ k, f = k + 1 := ⟨f - 1, by omega⟩
    have hr' : i ∈ Region.ready md ops listed := by simpa using hr
    exact wpV_first ho (Region.noSelect_spec hs) (fun c a w => hQ c a o.dst v w) (waitB_spec hw) f listed a w (Region.free_spec ho hf) hr' hy (ih _ _ _ w hB' h')
  | pure i t ih =>
    intro f listed a w hB h
    simp only [ovB, Bool.and_eq_true, decide_eq_true_eq] at hB
    obtain ⟨⟨⟨h0, hr⟩, hf⟩, hB'⟩ := hB
    obtain ⟨o, v, ho, hy, h'⟩ := h
    obtain ⟨f, rfl⟩ : ∃ k, f = k + 1 := ⟨f - 1, by omega⟩
    have hr' : i ∈ Region.ready md ops listed := by simpa using hr
    exact wpV_pure ho (Region.noSelect_spec hs) (fun c a w => hQ c a o.dst v w) f listed a w (Region.free_spec ho hf) hr' hy (ih _ _ _ w hB' h')
  | move i t ih =>
    intro f listed a w hB h
    simp only [ovB, Bool.and_eq_true, decide_eq_true_eq] at hB
    obtain ⟨⟨h0, hr⟩, hB'⟩ := hB
    obtain ⟨f, rfl⟩ : ∃ k, f = k + 1 := ⟨f - 1, by omega⟩
    have hr' : Region.ready md ops listed = [i] := by simpa using hr
    refine ⟨fun h0 => (by rw [hr'] at h0; cases h0), fun j hj => ?_⟩
    rw [hr'] at hj
    obtain rfl : j = i := by simpa using hj
    exact fun u hu => wpOp_mono (fun a' w' h' => ⟨h'.1, ih _ _ a' w' hB' h'.2⟩) (h u hu)
  | both i j t1 t2 ih1 ih2 =>
    intro f listed a w hB h
    simp only [ovB, Bool.and_eq_true, decide_eq_true_eq] at hB
    obtain ⟨⟨⟨h0, hr⟩, hB1⟩, hB2⟩ := hB
    obtain ⟨f, rfl⟩ : ∃ k, f = k + 1 := ⟨f - 1, by omega⟩
    have hr' : Region.ready md ops listed = [i, j] := by simpa using hr
    refine ⟨fun h0 => (by rw [hr'] at h0; cases h0), fun k hk => ?_⟩
    rw [hr'] at hk
    rcases List.mem_cons.1 hk with rfl | hk
    · exact fun u hu => wpOp_mono (fun a' w' h' => ⟨h'.1, ih1 _ _ a' w' hB1 h'.2⟩) (h.1 u hu)
    · obtain rfl : k = j := by simpa using hk
      exact fun u hu => wpOp_mono (fun a' w' h' => ⟨h'.1, ih2 _ _ a' w' hB2 h'.2⟩) (h.2 u hu)

/-- THE RULE. -/
theorem wp_region_ov {id : Nat} {a : Act} {w : World} {l : List Oper} (n : Nat) (t : OV) (hm : P.follows .mixedOrders = true) (hB : (Region.noSelect l.toArray && ovB .any l.toArray n t l.toArray.size (Array.replicate l.toArray.size false)) = true)
    (h : wpOV P l.toArray (NoPanic Q) n t a w.drew) : (Code.region id l.toArray true).wp P Q a w := by
  simp only [Bool.and_eq_true] at hB
  refine wp_region_noPanic (wp_region_any hm ?_)
  exact wpAny_of_V _ _ _ _ (wpV_of_OV (md := .any) (Q := NoPanic Q) hB.1 (fun c a d v w h => h) t _ _ a w.drew hB.2 h)
/-- A row of readers and makers, walked as Ord walks it, then the tree's. -/
def OV.ofS : List (Nat × Bool) → OV → OV
  | [], t => t
  | (i, true) :: s, t => .take i (OV.ofS s t)
  | (i, false) :: s, t => .move i (OV.ofS s t)
theorem ov_of_ord (t : OV) : ∀ (s : List (Nat × Bool)) (a : Act) (w : World), wpOrd P ops Q (fun a' u => wpOV P ops Q n t a' u) s a w → wpOV P ops Q n (OV.ofS s t) a w
  | [], a, w, h => by rw [ord_nil_eq] at h; exact h w (Grows.refl w)
  | (i, true) :: s, a, w, h => by
    rw [ord_take_eq] at h
    obtain ⟨o, v, ho, hy, h'⟩ := h
    exact ⟨o, v, ho, hy, ov_of_ord t s _ w h'⟩
  | (i, false) :: s, a, w, h => by
    rw [ord_move_eq] at h
    exact fun u hu => wpOp_mono (fun a' u' h' => ⟨fun _ => h'.1, ov_of_ord t s a' u' h'.2⟩) (h u hu)
theorem ov_both {i j : Nat} {t1 t2 : OV} {a : Act} {w : World} (h1 : ∀ u, Grows w u → wpOp P ops Q i (fun a' u' => (i < n → Grows u u') ∧ wpOV P ops Q n t1 a' u') a u)
    (h2 : ∀ u, Grows w u → wpOp P ops Q j (fun a' u' => (j < n → Grows u u') ∧ wpOV P ops Q n t2 a' u') a u) : wpOV P ops Q n (.both i j t1 t2) a w := ⟨h1, h2⟩
theorem ov_move {i : Nat} {t : OV} {a : Act} {w : World} (h : ∀ u, Grows w u → wpOp P ops Q i (fun a' u' => (i < n → Grows u u') ∧ wpOV P ops Q n t a' u') a u) : wpOV P ops Q n (.move i t) a w := h
theorem ov_pure {l : List Oper} {i : Nat} {t : OV} {a : Act} {w : World} (o : Oper) (v : Value) (ho : l[i]? = some o) (hw : Region.wanted o (yielded l.toArray a.tmps) = true)
    (hy : ∀ u, (execOp a.eval o).run P u = .ok (.value v) u) (h : wpOV P l.toArray Q n t (a.put o.dst v) w) : wpOV P l.toArray Q n (.pure i t) a w :=
  ⟨o, v, by simpa using ho, fun w' => .inl ⟨hw, fun u hu => by unfold Oper.quietAt; rw [hy u]; exact ⟨rfl, rfl⟩⟩, h⟩
theorem ov_done {a : Act} {w : World} (h : ∀ u, Grows w u → Q .normal a u) : wpOV P ops Q n .done a w := h
/-- One operation that changes the world. -/
theorem ov_op {l : List Oper} {i : Nat} {a : Act} {u : World} {R : Act → World → Prop} (o : Oper) (ho : l[i]? = some o) (hw : Region.wanted o (yielded l.toArray a.tmps) = true)
    (h : ∀ K : Act → World → Prop, Shut (∀ a' u', R a' u' → K a' u') → Oper.wp P o a u K Q) : wpOp P l.toArray Q i R a u := by
  refine wpOp_step (by simpa using ho) fun K hK => ?_
  rw [if_pos hw]
  exact h K fun a' w' hr => hK a' w' hr
end
end Go.Proofs.Ytfcijeogkgbejaa
