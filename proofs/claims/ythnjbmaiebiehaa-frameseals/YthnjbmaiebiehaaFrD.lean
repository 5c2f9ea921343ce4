/-
  A region that draws its order and may give up at its end (of no program); contracts of what frame's Open attempts.
-/
import Derived.Test.YthnjbmaiebiehaaFrC
namespace Go.Proofs.Ythnjbmaiebiehaa
open Go.RowKit
set_option linter.unusedVariables false

theorem wp_region_ordP {P : Program} {Q : Exit → Act → World → Prop} {id : Nat} {a : Act} {w : World} {l : List Oper} (n : Nat) (s : List (Nat × Bool)) (hm : P.follows .mixedOrders = true) (hB : ordWholeB l.toArray n s = true)
    (hQ : ∀ c a d v w, Q (.panic c) (Act.put a d v) w → Q (.panic c) a w)
    (h : wpOrd P l.toArray Q (fun a' u => wpList P l.toArray Q (l.drop n) a' u) s a w.drew) : (Code.region id l.toArray true).wp P Q a w := by
  simp only [ordWholeB, Bool.and_eq_true, decide_eq_true_eq, Bool.or_eq_true, beq_iff_eq] at hB
  obtain ⟨⟨⟨⟨hsel, hn⟩, hc⟩, hl⟩, hord⟩ := hB
  have hdl : (l.drop n).length = l.toArray.size - n := by simp
  have inv0 : HeadInv .any l.toArray n (Array.replicate l.toArray.size false) :=
    ⟨by simp, fun j oj _ hl => (by rw [getD_replicate_false] at hl; cases hl), fun t _ ht => getD_in (by simpa using ht) (getD_replicate_false _ _)⟩
  have hwait : ∀ i, i < n → ∀ listed, HeadInv .any l.toArray n listed → listed.getD i true = false → ∀ j ∈ Region.ready .any l.toArray listed, j < n := fun i hi listed inv hun j hj => by
    rcases hc with hc | ⟨hs, hch⟩
    · obtain ⟨_, oj, hoj, _⟩ := mem_ready.1 hj
      have := (Array.getElem?_eq_some_iff.1 hoj).1
      omega
    · rcases Nat.lt_or_ge j n with h | h
      · exact h
      · have hjs : j < l.toArray.size := by
          obtain ⟨_, oj, hoj, _⟩ := mem_ready.1 hj
          exact (Array.getElem?_eq_some_iff.1 hoj).1
        exact absurd hj (tail_waits hs hch (by omega) inv _ i rfl hi hun j h)
  refine wp_region_any hm ?_
  have H := wpAnyU_of_ord (md := .any) (g := l.toArray.size - n) (Q := Q) hsel hQ hwait s _ a w.drew inv0 hord h
  have := wpAny_of_U (Q := Q) (g := l.toArray.size - n) (fun listed a' w' hL => by
    have := wpAny_of_seq (md := .any) (Q' := Q) (l.drop n) n listed a' w' (fun j => by simp [List.getElem?_drop]) (by rw [hdl]; exact hL.1) (hL.2 w' (Grows.refl _))
    rwa [hdl] at this) _ _ _ _ H
  rw [hl, show n + (l.toArray.size - n) = l.toArray.size by omega] at this
  exact this

/-- What is attempted: the bytes, or that it is given up with an error. -/
def OOut (r : List UInt8 × Nat) (w : World) (e : Ending) (w' : World) : Prop :=
  (r.2 = 0 ∧ ∃ v, e = .returned v ∧ w'.ownsRow w.heap.size 5 1 v r.1.length (r.1.map bv) ∧ Grows w w') ∨ (r.2 ≠ 0 ∧ r.1 = [] ∧ e = .panicked (why r.2) ∧ Grows w w')

set_option maxRecDepth 20000 in
set_option maxHeartbeats 4000000 in
theorem open1_any (b0 b1 : Nat) (A : Option Addr) (n c : Nat) (f : List UInt8) (most : Int) (w : World) (h0 : Has w b0 [.slice A n c]) (h1 : Has w b1 [.int .i64 most]) (hl : f.length = n) (hr : Lies w w.heap.size A (f.map bv)) (hc : n ≤ c) (hn : n ≤ 1000000000) :
    Calls Try.prog 25 #[.pointer (some ⟨b0, 0, none⟩), .pointer (some ⟨b1, 0, none⟩)] w fun e w' => OOut (openOf f most) w e w' := by
  obtain ⟨td, htd, htr⟩ := Option.map_eq_some_iff.1 parts_desc
  have l0 := h0.cell (k := 0) rfl
  go_enter Try.func25, Try.ntmps25
  go_wp2_with fail
  refine (split_any A n c f w hl hr hc hn).mono ?_
  rintro e w1 (⟨HF, A', c', rfl, hc', hL', hg1⟩ | ⟨HF, rfl, hg1⟩)
  · have HO : Hid (openOf f most = if most < (toldN f : Int) then ([], 3) else sumOf (sumN f) (wereOf (pkB f) (toldN f) (keptL f))) := by show _ = _; unfold openOf; rw [if_neg (by rw [HF]; exact Bool.noConfusion)]
    have HKL : Hid ((keptL f).length = f.length - 10) := by show _ = _; unfold keptL; rw [List.length_take, List.length_drop]; omega
    have hmn : f.length - 10 ≤ 1000000000 := by omega
    have hS := sumN_lt f
    have hX := toldN_lt f
    clear HF hr hc l0 hl hn h0
    generalize f.length - 10 = m at *
    generalize toldN f = x at *
    generalize sumN f = s at *
    generalize pkB f = pk at *
    generalize keptL f = kl at *
    have hb2 := Has.new w1 48 [.bool false, .int .i64 0, .slice none 0 0, .int .u32 0]
    have hg2 := grows_alloc w1 (.cells #[.bool false, .int .i64 0, .slice none 0 0, .int .u32 0] 48)
    have l1 := (h1.later hg1).cell (k := 0) rfl
    have hwp : Below w.heap.size w w1 := hg1
    by_cases hx : most < (x : Int)
    · have hq : decide ((x : Int) ≤ most) = false := by simp; omega
      have HO3 : Hid (openOf f most = ([], 3)) := by show _ = _; rw [HO.out, if_pos hx]
      go_wp2_with (refine wpList_storev rfl 48 (.tmp 3) (.tmp 6) rfl w1.heap.size [.bool false, .int .i64 0, .slice none 0 0, .int .u32 0] [.bool pk, iv x, .slice A' m c', uv s] 4 rfl rfl hb2 rfl rfl parts_size (by simp [Value.oneCell']) ?_; intro w3 hb3 hbel3; have hg3 := hbel3 w1.heap.size w1 (Nat.le_refl _) hg2; have q1 := hb3.cell (k := 1) rfl; have l3 := hcell_later l1 hg3)
      refine (must_no 3 _).mono ?_
      rintro e w' ⟨rfl, rfl⟩
      exact ⟨rfl, .inr (by rw [HO3.out]; exact ⟨by decide, rfl, rfl, Grows.trans hg1 hg3⟩)⟩
    · have hq : (x : Int) ≤ most := by omega
      have HO4 : Hid (openOf f most = sumOf s (wereOf pk x kl)) := by show _ = _; rw [HO.out, if_neg hx]
      clear HO
      go_wp2_with (refine wpList_storev rfl 48 (.tmp 3) (.tmp 6) rfl w1.heap.size [.bool false, .int .i64 0, .slice none 0 0, .int .u32 0] [.bool pk, iv x, .slice A' m c', uv s] 4 rfl rfl hb2 rfl rfl parts_size (by simp [Value.oneCell']) ?_; intro w3 hb3 hbel3; have hg3 := hbel3 w1.heap.size w1 (Nat.le_refl _) hg2; have q1 := hb3.cell (k := 1) rfl; have l3 := hcell_later l1 hg3)
      refine (must_yes 3 _).mono ?_
      rintro e w' ⟨rfl, rfl⟩
      have hL3 := ((hL'.mono hg1.size).later hg3)
      have hg03 := Grows.trans hg1 hg3
      go_wp2_with (refine wpList_loads rfl 48 (.tmp 3) rfl _ rfl _ (hb3.load htd htr parts_size) ?_)
      refine (were_any pk A' m c' kl x s w3 HKL.out hL3 hc' hmn hX).mono ?_
      rintro e w4 (⟨b, v, HW, rfl, hown, hg4⟩ | ⟨HW, rfl, hg4⟩)
      · have HO5 : Hid (openOf f most = if crcOf b = s then (b, 0) else ([], 7)) := by show _ = _; rw [HO4.out, HW]; rfl
        have hbl : b.length ≤ 4294967296 := by
          have hw := HW
          unfold wereOf at hw
          split at hw
          · split at hw
            · rename_i h; injection hw with hw; rw [← hw, h.2]; omega
            · cases hw
          · split at hw
            · rename_i h; injection hw with hw; rw [← hw, h]; omega
            · cases hw
        have hg04 := Grows.trans hg03 hg4
        have q3 := hcell_later (hb3.cell (k := 3) rfl) hg4
        have hC := crcOf_lt b
        have hownF := own_base hown hg03.size
        have HOWN := Lib.hid hownF
        obtain ⟨A4, c4, rfl, hc4⟩ := own_form hown
        have hL4 := Lies.of_own hown
        have HB : Hid (b.length = b.length) := rfl
        clear hown hownF HO4 HW hL3 q1 l3 hb3 hbel3 hg3 hg1 hL' hb2 hg2 l1 h1
        obtain ⟨bl, hbl2⟩ : ∃ bl, b.length = bl := ⟨_, rfl⟩
        simp only [hbl2] at hbl HOWN hc4
        have HBL := Lib.hid hbl2
        rw [hbl2]
        clear hbl2 HB
        obtain ⟨cs, hcs⟩ : ∃ cs, crcOf b = cs := ⟨_, rfl⟩
        have HCS := Lib.hid hcs
        rw [hcs] at hC
        clear hcs
        go_wp2_with fail
        refine wp_region_ordP 5 [(0, true), (1, true), (2, true), (3, true), (4, true)] (by kernel_rfl) (by kernel_rfl) (by intro c a d v w h; cases d <;> exact h) ?_
        have hgd : Grows w4 w4.drew := (Grows.refl w4).drew
        have hL4 := Lib.hid (hL4.later hgd)
        have q3 := hcell_later q3 hgd
        have HGD := Lib.hid hgd
        have hO := Grows.refl w4.drew
        clear hgd
        generalize w4.drew = wd at *
        have ld1 : ∀ u, Grows wd u → u.cell? ⟨w1.heap.size, 3, none⟩ = some (uv s) := fun u h => hcell_later q3 h
        repeat (first | (refine ord_take hO _ ?_ (by simp only [List.getElem?_cons_succ, List.getElem?_cons_zero]; rfl) (by rfl) ?_ ?_; rotate_left; (· (intro u hu0 hu; (try go_simp); (try with_reducible rfl))); try simp only [Act.put, List.setIfInBounds_toArray, List.set_cons_zero, List.set_cons_succ]) | (refine ord_skip _ (by simp only [List.getElem?_cons_succ, List.getElem?_cons_zero]; rfl) (by rfl) ?_; try simp only [Act.put, List.setIfInBounds_toArray, List.set_cons_zero, List.set_cons_succ]) | (refine ord_call hO _ ?_ (by simp only [List.getElem?_cons_succ, List.getElem?_cons_zero]; rfl) (by rfl) ?_ ?_; rotate_left; (· (intro u hu0 hu; go_simp; (try refine quiet_enter ?_); (exact sum_g _ _ _ HCS _ HBL.out (hL4.out.later hu0) (by omega)))); try simp only [Act.put, List.setIfInBounds_toArray, List.set_cons_zero, List.set_cons_succ]))
        clear hO ld1 q3
        (refine ord_done (fun u hu => ?_); simp only [List.drop_succ_cons, List.drop_zero])
        have hgu := Grows.trans HGD.out hu
        have HOWN := Lib.hid (own_later HOWN.out hgu)
        have hgF := Grows.trans hg04 hgu
        clear hu HGD hgu hg04 hg03 hg4 hL4 hwp
        by_cases hcs2 : cs = s
        · subst hcs2
          have HO6 : Hid (openOf f most = (b, 0)) := by show _ = _; rw [HO5.out, if_pos HCS.out]
          go_wp2_with fail
          refine (must_yes 7 _).mono ?_
          rintro e w' ⟨rfl, rfl⟩
          go_wp2_with fail
          go_ret
          exact .inl (by rw [HO6.out]; exact ⟨rfl, _, rfl, (by show World.ownsRow _ _ _ _ _ b.length _; rw [HBL.out]; exact HOWN.out), hgF⟩)
        · have hq2 : ((cs : Int) == (s : Int)) = false := by simp; omega
          have HO6 : Hid (openOf f most = ([], 7)) := by show _ = _; rw [HO5.out, if_neg (by rw [HCS.out]; exact hcs2)]
          go_wp2_with fail
          refine (must_no 7 _).mono ?_
          rintro e w' ⟨rfl, rfl⟩
          exact ⟨rfl, .inr (by rw [HO6.out]; exact ⟨by decide, rfl, rfl, hgF⟩)⟩
      · have HO5 : Hid (openOf f most = ([], 2)) := by show _ = _; rw [HO4.out, HW]; rfl
        exact ⟨rfl, .inr (by rw [HO5.out]; exact ⟨by decide, rfl, rfl, Grows.trans hg03 hg4⟩)⟩
  · have HO : Hid (openOf f most = ([], 2)) := by show _ = _; unfold openOf; rw [if_pos HF]
    exact ⟨rfl, .inr (by rw [HO.out]; exact ⟨by decide, rfl, rfl, hg1⟩)⟩
end Go.Proofs.Ythnjbmaiebiehaa
