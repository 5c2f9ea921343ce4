/-
  tree.kindMay, fieldsMay: they answer kindB, fieldsB.
-/
import Derived.Test.YtanofmejokgijaaTrF
namespace Go.Proofs.Ytanofmejokgijaa
open Go.RowKit
set_option linter.unusedVariables false

theorem node_size : (Try.prog.info? 28).map (·.size) = some 12 := by kernel_rfl
set_option maxRecDepth 20000 in
theorem rec_load {w : World} {ok : Nat → Prop} {ad : Addr} {o : Own} {h : Hang} (hr : RecAt w ok (some ad) 0 (nodeCells o h)) : (Instr.loadAt 28 (.pointer (some ad))).run Try.prog w = .ok (nv o h) w := by
  obtain ⟨ad', e, _, hc⟩ := hr
  injection e with e
  subst e
  exact load_any w ad 28 (nodeCells o h) _ (fun j v hv => by have := hc j v hv; rwa [Nat.zero_mul, Nat.zero_add] at this) Try.underlying28 rfl (by rw [nodeCells_len]; exact node_size)
theorem rec_later {w w' : World} {ok : Nat → Prop} {A : Option Addr} {i : Nat} {vs : List Value} (h : RecAt w ok A i vs) (hg : Grows w w') : RecAt w' ok A i vs := h.turn (turns_grows hg) fun _ _ h => h

/-- The zero node's cells. -/
abbrev zeroN : List Value := [.int .i64 0, .string ⟨#[]⟩, .int .i64 0, .int .i64 0, .int .i64 0, .int .i64 0, .slice none 0 0, .string ⟨#[]⟩, .int .i64 0, .int .i64 0, .slice none 0 0, .slice none 0 0]
theorem has_set {w : World} {b : Nat} {vs : List Value} (h : Has w b vs) (k : Nat) (hk : k < vs.length) (x : Value) : Has (w.setCell ⟨b, k, none⟩ x) b (vs.set k x) := h.set_ hk x
theorem below_set {w0 w : World} {b : Nat} (h : Grows w0 w) (hb : w0.heap.size ≤ b) (k : Nat) (x : Value) : Grows w0 (w.setCell ⟨b, k, none⟩ x) := Below.setCell h (p := ⟨b, k, none⟩) hb x
set_option maxRecDepth 20000 in
set_option maxHeartbeats 2000000 in
theorem kindmay_any (ad : Addr) (o : Own) (h : Hang) (ok : Nat → Prop) (w : World) (hr : RecAt w ok (some ad) 0 (nodeCells o h)) (hd : o.data.length = h.nd) :
    Calls Try.prog 81 #[.pointer (some ad)] w fun e w' => e = .returned (.bool (kindB o h.nk)) ∧ Grows w w' := by
  have hgd := (Grows.refl w).drew
  obtain ⟨R, hR⟩ : ∃ R, R = kindB o h.nk := ⟨_, rfl⟩
  rw [← hR]
  unfold kindB at hR
  rw [hd] at hR
  have HR := Lib.hid hR
  clear hR
  go_enter Try.func81, Try.ntmps81
  go_wp2_with fail
  refine wp_region_ord 5 [(0, true), (1, true), (2, true), (3, false), (4, true)] (by kernel_rfl) (by kernel_rfl) ?_
  have hO := Grows.refl w.drew
  have hrd := rec_later hr hgd
  have ld : ∀ u, Grows w.drew u → (Instr.loadAt 28 (.pointer (some ad))).run Try.prog u = .ok (nv o h) u := fun u hu => rec_load (rec_later hrd hu)
  have hne : nv o h = .agg (nodeCells o h).toArray := rfl
  generalize w.drew = wd at *
  repeat (first | (refine ord_load hO _ _ (by simp only [List.getElem?_cons_succ, List.getElem?_cons_zero]; rfl) (by rfl) 28 (.tmp 6) (by rfl) _ (by rfl) ld ?_; try simp only [Act.put, List.setIfInBounds_toArray, List.set_cons_zero, List.set_cons_succ]) | (refine ord_take hO _ ?_ (by simp only [List.getElem?_cons_succ, List.getElem?_cons_zero]; rfl) (by rfl) ?_ ?_; rotate_left; (· (intro u hu0 hu; (try go_simp); (try with_reducible rfl))); try simp only [Act.put, List.setIfInBounds_toArray, List.set_cons_zero, List.set_cons_succ]) | (refine ord_skip _ (by simp only [List.getElem?_cons_succ, List.getElem?_cons_zero]; rfl) (by rfl) ?_; try simp only [Act.put, List.setIfInBounds_toArray, List.set_cons_zero, List.set_cons_succ]))
  (refine ord_move _ (by simp only [List.getElem?_cons_succ, List.getElem?_cons_zero]; rfl) (by rfl) (fun u hu K hK => ?_); go_simp)
  refine hK.out _ _ (grows_alloc _ _) ?_
  clear hK K hO ld
  have hb := Has.new u 28 zeroN
  have hg1 := Grows.trans hgd (Grows.trans hu (grows_alloc u (.cells zeroN.toArray 28)))
  have hlb : w.heap.size ≤ u.heap.size := Nat.le_trans hgd.size hu.size
  obtain ⟨w1, hw1⟩ : ∃ w1, w1 = u.alloc (.cells zeroN.toArray 28) := ⟨_, rfl⟩
  rw [← hw1] at hb hg1
  change wpOrd _ _ _ _ _ _ (u.alloc (.cells zeroN.toArray 28))
  rw [← hw1]
  clear hw1 hu hgd hrd
  generalize u.heap.size = b at *
  have hO := Grows.refl w1
  have hvl := nodeCells_len o h
  repeat (first | (refine ord_take hO _ ?_ (by simp only [List.getElem?_cons_succ, List.getElem?_cons_zero]; rfl) (by rfl) ?_ ?_; rotate_left; (· (intro u hu0 hu; (try go_simp); (try with_reducible rfl))); try simp only [Act.put, List.setIfInBounds_toArray, List.set_cons_zero, List.set_cons_succ]) | (refine ord_skip _ (by simp only [List.getElem?_cons_succ, List.getElem?_cons_zero]; rfl) (by rfl) ?_; try simp only [Act.put, List.setIfInBounds_toArray, List.set_cons_zero, List.set_cons_succ]))
  (refine ord_done (fun u hu => ?_); simp only [List.drop_succ_cons, List.drop_zero])
  have hbu := hb.later hu
  have hgu := Grows.trans hg1 hu
  clear hb hg1 hO hu
  go_wp2_with (refine wpList_storev rfl 28 (.tmp 4) (.tmp 7) rfl b zeroN (nodeCells o h) 12 rfl rfl hbu rfl rfl node_size (nodeCells_one o h) ?_; intro w3 hb3 hbel3)
  refine NoPanic.normal ?_
  have hg3 : Grows w w3 := hbel3 _ _ hlb hgu
  have hr3 := rec_later hr hg3
  have c0 := rec_cell0 hr3 rfl
  have c6 := rec_cell hr3 (j := 5) rfl
  have c7 := rec_cell hr3 (j := 6) rfl
  have c8 := rec_cell hr3 (j := 7) rfl
  have c9 := rec_cell hr3 (j := 8) rfl
  clear hbu hbel3 hgu hr hvl
  by_cases k1 : o.kind = 1
  · have hS : R = nothingB 0 h.nd o.target o.major o.minor := by rw [HR.out, if_pos k1]
    have e1 : (o.kind == 1) = true := by simpa using k1
    have hf := hb3.free 11
    have q11 := hb3.cell (k := 11) rfl
    have hb4 := has_set hb3 11 (by simp [nodeCells]) (.slice none 0 0)
    have hg4 := below_set hg3 hlb 11 (.slice none 0 0)
    have N4 := (nothing_any ⟨b, 0, none⟩ 0 h.nd _ _ _ _ o.target o.major o.minor (w3.setCell ⟨b, 11, none⟩ (.slice none 0 0)) (hb4.cell (k := 11) rfl) (hb4.cell (k := 6) rfl) (hb4.cell (k := 7) rfl) (hb4.cell (k := 8) rfl) (hb4.cell (k := 9) rfl))
    rw [← hS] at N4
    clear k1 hS hb3 HR
    go_wp2_with fail
    refine N4.mono ?_
    rintro e w5 ⟨rfl, rfl⟩
    go_wp2
    go_ret
    exact ⟨rfl, hg4⟩
  have n1 : (o.kind == 1) = false := by simpa using k1
  by_cases k2 : o.kind = 2
  · have hS : R = (decide (h.nd ≤ 4096) && nothingB h.nk 0 o.target o.major o.minor) := by rw [HR.out, if_neg k1, if_pos k2]
    have e1 : (o.kind == 2) = true := by simpa using k2
    have hd4 : decide (h.nd ≤ 4096) = decide ((h.nd : Int) ≤ 4096) := by rw [Bool.eq_iff_iff]; simp; omega
    rw [hd4] at hS
    have hf := hb3.free 6
    have q6 := hb3.cell (k := 6) rfl
    have hb4 := has_set hb3 6 (by simp [nodeCells]) (.slice none 0 0)
    have hg4 := below_set hg3 hlb 6 (.slice none 0 0)
    have N4 := (nothing_any ⟨b, 0, none⟩ h.nk 0 _ _ _ _ o.target o.major o.minor (w3.setCell ⟨b, 6, none⟩ (.slice none 0 0)) (hb4.cell (k := 11) rfl) (hb4.cell (k := 6) rfl) (hb4.cell (k := 7) rfl) (hb4.cell (k := 8) rfl) (hb4.cell (k := 9) rfl))
    generalize nothingB h.nk 0 o.target o.major o.minor = nb at *
    cases hdd : decide ((h.nd : Int) ≤ 4096)
    · rw [hdd, Bool.false_and] at hS
      subst hS
      clear k1 k2 hb3 HR N4
      go_wp2
      go_ret
      exact ⟨rfl, hg4⟩
    · rw [hdd, Bool.true_and] at hS
      subst hS
      clear k1 k2 hb3 HR
      go_wp2_with fail
      refine N4.mono ?_
      rintro e w5 ⟨rfl, rfl⟩
      go_wp2
      go_ret
      exact ⟨rfl, hg4⟩
  have n2 : (o.kind == 2) = false := by simpa using k2
  by_cases k3 : o.kind = 3
  · have hS : R = (targetB o.target && nothingB h.nk h.nd [] o.major o.minor) := by rw [HR.out, if_neg k1, if_neg k2, if_pos k3]
    have e1 : (o.kind == 3) = true := by simpa using k3
    have hf := hb3.free 7
    have q7 := hb3.cell (k := 7) rfl
    have hb4 := has_set hb3 7 (by simp [nodeCells]) (.string ⟨#[]⟩)
    have hg4 := below_set hg3 hlb 7 (.string ⟨#[]⟩)
    have N4 := (nothing_any ⟨b, 0, none⟩ h.nk h.nd _ _ _ _ [] o.major o.minor (w3.setCell ⟨b, 7, none⟩ (.string ⟨#[]⟩)) (hb4.cell (k := 11) rfl) (hb4.cell (k := 6) rfl) (hb4.cell (k := 7) rfl) (hb4.cell (k := 8) rfl) (hb4.cell (k := 9) rfl))
    have T3 := target_any o.target w3
    generalize nothingB h.nk h.nd [] o.major o.minor = nb at *
    generalize targetB o.target = tb at *
    clear k1 k2 k3 hb3 HR
    go_wp2_with fail
    refine T3.mono ?_
    rintro e w5 ⟨rfl, rfl⟩
    cases tb
    · rw [Bool.false_and] at hS
      subst hS
      go_wp2
      go_ret
      exact ⟨rfl, hg4⟩
    · rw [Bool.true_and] at hS
      subst hS
      go_wp2_with fail
      refine N4.mono ?_
      rintro e w6 ⟨rfl, rfl⟩
      go_wp2
      go_ret
      exact ⟨rfl, hg4⟩
  have n3 : (o.kind == 3) = false := by simpa using k3
  by_cases k4 : o.kind = 4
  · have hS : R = ((upB o.major 255 && upB o.minor 255) && nothingB h.nk h.nd o.target 0 0) := by rw [HR.out, if_neg k1, if_neg k2, if_neg k3, if_pos k4]
    have e1 : (o.kind == 4) = true := by simpa using k4
    have hf := hb3.free 8
    have hf9 := hb3.free 9
    have q8 := hb3.cell (k := 8) rfl
    have q9 := hb3.cell (k := 9) rfl
    have hb4 := has_set hb3 8 (by simp [nodeCells]) (.int .i64 0)
    have q9' := hb4.cell (k := 9) rfl
    have hf9' := hb4.free 9
    have hb5 := has_set hb4 9 (by simp [nodeCells]) (.int .i64 0)
    have hg4 := below_set (below_set hg3 hlb 8 (.int .i64 0)) hlb 9 (.int .i64 0)
    have N4 := (nothing_any ⟨b, 0, none⟩ h.nk h.nd _ _ _ _ o.target 0 0 ((w3.setCell ⟨b, 8, none⟩ (.int .i64 0)).setCell ⟨b, 9, none⟩ (.int .i64 0)) (hb5.cell (k := 11) rfl) (hb5.cell (k := 6) rfl) (hb5.cell (k := 7) rfl) (hb5.cell (k := 8) rfl) (hb5.cell (k := 9) rfl))
    have U1 := upto_any o.major 255 w3
    have U2 := upto_any o.minor 255 w3
    generalize nothingB h.nk h.nd o.target 0 0 = nb at *
    generalize upB o.major 255 = b1 at *
    generalize upB o.minor 255 = b2 at *
    clear k1 k2 k3 k4 hb3 HR hb4
    go_wp2_with fail
    refine U1.mono ?_
    rintro e w5 ⟨rfl, rfl⟩
    cases b1
    · rw [Bool.false_and, Bool.false_and] at hS
      subst hS
      go_wp2
      go_ret
      exact ⟨rfl, hg4⟩
    · rw [Bool.true_and] at hS
      go_wp2_with fail
      refine U2.mono ?_
      rintro e w5 ⟨rfl, rfl⟩
      cases b2
      · rw [Bool.false_and] at hS
        subst hS
        go_wp2
        go_ret
        exact ⟨rfl, hg4⟩
      · rw [Bool.true_and] at hS
        subst hS
        go_wp2_with fail
        refine N4.mono ?_
        rintro e w6 ⟨rfl, rfl⟩
        go_wp2
        go_ret
        exact ⟨rfl, hg4⟩
  have n4 : (o.kind == 4) = false := by simpa using k4
  have hS : R = false := by rw [HR.out, if_neg k1, if_neg k2, if_neg k3, if_neg k4]
  subst hS
  clear k1 k2 k3 k4 hb3 HR
  go_wp2
  go_ret
  exact ⟨rfl, hg3⟩
end Go.Proofs.Ytanofmejokgijaa
