/-
  Contracts of hexa.Compare, hexa.Less and the reference's Compare: byte by byte, -1, 0 or 1. Condition: both digests are 32 bytes.
-/
import Derived.Test.YtgkoopnbphohaaaHex
import Derived.Test.YtgkoopnbphohaaaArr
import Derived.BigQuiet
namespace Go.Proofs.Ytgkoopnbphohaaa
open Go.RowKit
set_option linter.unusedVariables false

/-- How two rows of bytes stand. -/
def cmpB : List UInt8 → List UInt8 → Int
  | x :: xs, y :: ys => if x.toNat < y.toNat then -1 else if y.toNat < x.toNat then 1 else cmpB xs ys
  | _, _ => 0

theorem cmpB_drop (a b : List UInt8) : ∀ k, k ≤ a.length → k ≤ b.length → (∀ j, j < k → a[j]? = b[j]?) → cmpB a b = cmpB (a.drop k) (b.drop k) := by
  intro k
  induction k generalizing a b with
  | zero => intros; rfl
  | succ k ih =>
    intro ha hb h
    match a, b, ha, hb with
    | x :: xs, y :: ys, ha, hb =>
      have h0 := h 0 (by omega)
      simp at h0
      subst h0
      rw [cmpB, if_neg (by omega), if_neg (by omega)]
      exact ih xs ys (by simpa using ha) (by simpa using hb) (fun j hj => by simpa using h (j + 1) (by omega))
theorem cmpB_at (a b : List UInt8) (k : Nat) (x y : UInt8) (ha : a[k]? = some x) (hb : b[k]? = some y) (h : ∀ j, j < k → a[j]? = b[j]?) :
    cmpB a b = if x.toNat < y.toNat then -1 else if y.toNat < x.toNat then 1 else cmpB (a.drop (k + 1)) (b.drop (k + 1)) := by
  have la : k < a.length := by
    rcases Nat.lt_or_ge k a.length with h | h
    · exact h
    · rw [List.getElem?_eq_none h] at ha; cases ha
  have lb : k < b.length := by
    rcases Nat.lt_or_ge k b.length with h | h
    · exact h
    · rw [List.getElem?_eq_none h] at hb; cases hb
  rw [cmpB_drop a b k (by omega) (by omega) h, List.drop_eq_getElem_cons la, List.drop_eq_getElem_cons lb, cmpB]
  rw [List.getElem?_eq_getElem la] at ha
  rw [List.getElem?_eq_getElem lb] at hb
  injection ha with ha
  injection hb with hb
  rw [ha, hb]

theorem mix_set (la lb : List UInt8) (k : Nat) (x : UInt8) (hx : la[k]? = some x) (hk : k < lb.length) : (la.take k ++ lb.drop k).set k x = la.take (k + 1) ++ lb.drop (k + 1) := by
  have hka : k < la.length := by
    rcases Nat.lt_or_ge k la.length with h | h
    · exact h
    · rw [List.getElem?_eq_none h] at hx; cases hx
  have hl : (la.take k).length = k := by rw [List.length_take]; omega
  rw [List.set_append_right _ _ (by omega), hl, Nat.sub_self, List.drop_eq_getElem_cons hk, List.set_cons_zero, List.take_add_one, hx]
  simp

theorem ret_i {k : IntKind} {a b : Int} (h : b = a) : Ending.returned (.int k a) = .returned (.int k b) := by rw [h]

set_option maxHeartbeats 1000000 in
theorem compare_any (la lb : List UInt8) (w : World) (ha : la.length = 32) (hb : lb.length = 32) :
    Calls Try.prog 22 #[dv la, dv lb] w fun e w' => e = .returned (.int .i64 (cmpB la lb)) ∧ Below w.heap.size w w' := by
  have HA := Lib.hid ha
  have HB := Lib.hid hb
  clear ha hb
  go_enter Try.func22, Try.ntmps22
  go_wp2
  have hg : Grows w ((w.alloc (.cells (la.map bv).toArray 35)).alloc (.cells (lb.map bv).toArray 35)) := ((Grows.refl w).alloc (Nat.le_refl _) _).alloc (by simp) _
  have hL0 := (Lies.new w 35 (la.map bv)).alloc_ (o := .cells (lb.map bv).toArray 35) (by simp)
  have hL1 := Lies.new (w.alloc (.cells (la.map bv).toArray 35)) 35 (lb.map bv)
  rw [World.size_alloc] at hL1
  have hsz : w.heap.size + 1 + 1 = ((w.alloc (.cells (la.map bv).toArray 35)).alloc (.cells (lb.map bv).toArray 35)).heap.size := by simp
  rw [hsz] at hL1
  have hL0' := hL0.mono (B' := ((w.alloc (.cells (la.map bv).toArray 35)).alloc (.cells (lb.map bv).toArray 35)).heap.size) (by simp)
  clear hsz hL0
  generalize (w.alloc (.cells (la.map bv).toArray 35)).alloc (.cells (lb.map bv).toArray 35) = w0 at *
  go_loopw [5, 6] (fun _ i wr => ∃ k : Nat, k ≤ 32 ∧ i = .int .i64 k ∧ (∀ j, j < k → la[j]? = lb[j]?) ∧ Grows w0 wr) (fun _ i _ => 32 - (intOf i).toNat)
  case atStart => exact ⟨0, Nat.zero_le _, rfl, fun j hj => absurd hj (by omega), Grows.refl _⟩
  case round =>
    obtain ⟨k, hk, rfl, hsame, hgr⟩ := hrel
    have HS := Lib.hid hsame
    clear hsame
    by_cases hlt : k < 32
    · obtain ⟨x, hx⟩ : ∃ x, la[k]? = some x := ⟨_, List.getElem?_eq_getElem (by rw [HA.out]; exact hlt)⟩
      obtain ⟨y, hy⟩ : ∃ y, lb[k]? = some y := ⟨_, List.getElem?_eq_getElem (by rw [HB.out]; exact hlt)⟩
      have hcmp := cmpB_at la lb k x y hx hy HS.out
      obtain ⟨ad0, e0, _, cx⟩ := (hL0'.later hgr).at_ (j := k) (u := bv x) (by rw [List.getElem?_map, hx]; rfl)
      injection e0 with e0
      subst e0
      rw [add_plain, Nat.zero_add] at cx
      obtain ⟨ad1, e1, _, cy⟩ := (hL1.later hgr).at_ (j := k) (u := bv y) (by rw [List.getElem?_map, hy]; rfl)
      injection e1 with e1
      subst e1
      rw [add_plain, Nat.zero_add] at cy
      have HX := Lib.hid hx
      have HY := Lib.hid hy
      have HC := Lib.hid hcmp
      clear hx hy hcmp
      have k0 : (0 : Int) ≤ (k : Int) := Int.natCast_nonneg _
      have k1 : (k : Int) < 32 := by omega
      by_cases h1 : x.toNat < y.toNat
      · have d1 : decide (x.toNat < y.toNat) = true := by simpa using h1
        go_wp2
        go_quiet (fail)
        go_wp2
        go_ret
        refine ⟨ret_i (by rw [HC.out, if_pos h1]), grow_trans hg (below_draws hgr)⟩
      · have d1 : decide (x.toNat < y.toNat) = false := by simpa using h1
        by_cases h2 : y.toNat < x.toNat
        · have d2 : decide (y.toNat < x.toNat) = true := by simpa using h2
          go_wp2
          go_quiet (fail)
          go_wp2
          go_quiet (fail)
          go_wp2
          go_ret
          refine ⟨ret_i (by rw [HC.out, if_neg h1, if_pos h2]), grow_trans hg (below_draws (below_draws hgr))⟩
        · have d2 : decide (y.toNat < x.toNat) = false := by simpa using h2
          go_wp2
          go_quiet (fail)
          go_wp2
          go_quiet (fail)
          go_wp2
          go_roundw
          case rel =>
            refine ⟨k + 1, by omega, by go_num, fun j hj => ?_, below_draws hgr⟩
            by_cases hjk : j < k
            · exact HS.out j hjk
            · obtain rfl : j = k := by omega
              rw [HX.out, HY.out]
              congr 1
              exact UInt8.toNat_inj.1 (by omega)
          case measure => simp [intOf]; omega
    · obtain rfl : k = 32 := by omega
      go_wp2
      go_ret
      refine ⟨ret_i ?_, grow_trans hg hgr⟩
      rw [cmpB_drop la lb 32 (by rw [HA.out]; omega) (by rw [HB.out]; omega) HS.out, List.drop_of_length_le (by rw [HA.out]; omega)]
      rfl

set_option maxHeartbeats 1000000 in
theorem rcompare_any (la lb : List UInt8) (w : World) (ha : la.length = 32) (hb : lb.length = 32) :
    Calls Try.prog 23 #[dv la, dv lb] w fun e w' => e = .returned (.int .i64 (cmpB la lb)) ∧ Below w.heap.size w w' := by
  have HA := Lib.hid ha
  have HB := Lib.hid hb
  clear ha hb
  go_enter Try.func23, Try.ntmps23
  go_wp2
  have hg : Grows w ((w.alloc (.cells (la.map bv).toArray 35)).alloc (.cells (lb.map bv).toArray 35)) := ((Grows.refl w).alloc (Nat.le_refl _) _).alloc (by simp) _
  have hL0 := (Lies.new w 35 (la.map bv)).alloc_ (o := .cells (lb.map bv).toArray 35) (by simp)
  have hL1 := Lies.new (w.alloc (.cells (la.map bv).toArray 35)) 35 (lb.map bv)
  rw [World.size_alloc] at hL1
  have hsz : w.heap.size + 1 + 1 = ((w.alloc (.cells (la.map bv).toArray 35)).alloc (.cells (lb.map bv).toArray 35)).heap.size := by simp
  rw [hsz] at hL1
  have hL0' := hL0.mono (B' := ((w.alloc (.cells (la.map bv).toArray 35)).alloc (.cells (lb.map bv).toArray 35)).heap.size) (by simp)
  clear hsz hL0
  generalize (w.alloc (.cells (la.map bv).toArray 35)).alloc (.cells (lb.map bv).toArray 35) = w0 at *
  go_loopw [5] (fun i wr => ∃ k : Nat, k ≤ 32 ∧ i = .int .i64 k ∧ (∀ j, j < k → la[j]? = lb[j]?) ∧ Grows w0 wr) (fun i _ => 32 - (intOf i).toNat)
  case atStart => exact ⟨0, Nat.zero_le _, rfl, fun j hj => absurd hj (by omega), Grows.refl _⟩
  case round =>
    obtain ⟨k, hk, rfl, hsame, hgr⟩ := hrel
    have HS := Lib.hid hsame
    clear hsame
    by_cases hlt : k < 32
    · obtain ⟨x, hx⟩ : ∃ x, la[k]? = some x := ⟨_, List.getElem?_eq_getElem (by rw [HA.out]; exact hlt)⟩
      obtain ⟨y, hy⟩ : ∃ y, lb[k]? = some y := ⟨_, List.getElem?_eq_getElem (by rw [HB.out]; exact hlt)⟩
      have hcmp := cmpB_at la lb k x y hx hy HS.out
      obtain ⟨ad0, e0, _, cx⟩ := (hL0'.later hgr).at_ (j := k) (u := bv x) (by rw [List.getElem?_map, hx]; rfl)
      injection e0 with e0
      subst e0
      rw [add_plain, Nat.zero_add] at cx
      obtain ⟨ad1, e1, _, cy⟩ := (hL1.later hgr).at_ (j := k) (u := bv y) (by rw [List.getElem?_map, hy]; rfl)
      injection e1 with e1
      subst e1
      rw [add_plain, Nat.zero_add] at cy
      have HX := Lib.hid hx
      have HY := Lib.hid hy
      have HC := Lib.hid hcmp
      clear hx hy hcmp
      have k0 : (0 : Int) ≤ (k : Int) := Int.natCast_nonneg _
      have k1 : (k : Int) < 32 := by omega
      by_cases h1 : x.toNat < y.toNat
      · have d1 : decide (x.toNat < y.toNat) = true := by simpa using h1
        go_wp2
        go_quiet (fail)
        go_wp2
        go_ret
        refine ⟨ret_i (by rw [HC.out, if_pos h1]), grow_trans hg (below_draws hgr)⟩
      · have d1 : decide (x.toNat < y.toNat) = false := by simpa using h1
        by_cases h2 : y.toNat < x.toNat
        · have d2 : decide (y.toNat < x.toNat) = true := by simpa using h2
          go_wp2
          go_quiet (fail)
          go_wp2
          go_quiet (fail)
          go_wp2
          go_ret
          refine ⟨ret_i (by rw [HC.out, if_neg h1, if_pos h2]), grow_trans hg (below_draws (below_draws hgr))⟩
        · have d2 : decide (y.toNat < x.toNat) = false := by simpa using h2
          go_wp2
          go_quiet (fail)
          go_wp2
          go_quiet (fail)
          go_wp2
          go_roundw
          case rel =>
            refine ⟨k + 1, by omega, by go_num, fun j hj => ?_, below_draws hgr⟩
            by_cases hjk : j < k
            · exact HS.out j hjk
            · obtain rfl : j = k := by omega
              rw [HX.out, HY.out]
              congr 1
              exact UInt8.toNat_inj.1 (by omega)
          case measure => simp [intOf]; omega
    · obtain rfl : k = 32 := by omega
      go_wp2
      go_ret
      refine ⟨ret_i ?_, grow_trans hg hgr⟩
      rw [cmpB_drop la lb 32 (by rw [HA.out]; omega) (by rw [HB.out]; omega) HS.out, List.drop_of_length_le (by rw [HA.out]; omega)]
      rfl

theorem dig_size : (Try.prog.info? 35).map (·.size) = some 32 := by kernel_rfl
/-- A digest that lies there is read whole. -/
theorem load_dig {u : World} {B b : Nat} {l : List UInt8} (hl : l.length = 32) (h : Lies u B (some ⟨b, 0, none⟩) (l.map bv)) : (Instr.loadAt 35 (.pointer (some ⟨b, 0, none⟩))).run Try.prog u = .ok (dv l) u :=
  load_arr Try.underlying35 dig_size hl h
theorem eql_dig (la lb : List UInt8) (ha : la.length = 32) (hb : lb.length = 32) (w : World) : (binOp .eql 35 (dv la) (dv lb)).run Try.prog w = .ok (.bool (la == lb)) w :=
  run_eql_bytes w Try.underlying35 Try.underlying5 (by kernel_rfl) la lb ha hb
theorem neq_dig (la lb : List UInt8) (ha : la.length = 32) (hb : lb.length = 32) (w : World) : (binOp .neq 35 (dv la) (dv lb)).run Try.prog w = .ok (.bool (!(la == lb))) w :=
  run_neq_bytes w Try.underlying35 Try.underlying5 (by kernel_rfl) la lb ha hb
/-- Two boxes of digests. -/
theorem boxes {w : World} (la lb : List UInt8) : ∃ w0, w0 = (w.alloc (.cells (la.map bv).toArray 35)).alloc (.cells (lb.map bv).toArray 35) ∧ Grows w w0 ∧
    Lies w0 w0.heap.size (some ⟨w.heap.size, 0, none⟩) (la.map bv) ∧ Lies w0 w0.heap.size (some ⟨w.heap.size + 1, 0, none⟩) (lb.map bv) := by
  refine ⟨_, rfl, ((Grows.refl w).alloc (Nat.le_refl _) _).alloc (by simp) _, ?_, ?_⟩
  · exact ((Lies.new w 35 (la.map bv)).alloc_ (by simp)).mono (by simp)
  · have h := Lies.new (w.alloc (.cells (la.map bv).toArray 35)) 35 (lb.map bv)
    rw [World.size_alloc] at h
    exact h.mono (by simp)

set_option maxHeartbeats 1000000 in
theorem less_any (la lb : List UInt8) (w : World) (ha : la.length = 32) (hb : lb.length = 32) :
    Calls Try.prog 24 #[dv la, dv lb] w fun e w' => e = .returned (.bool (cmpB la lb == -1)) ∧ Below w.heap.size w w' := by
  obtain ⟨w0, hw0, hg, hL0, hL1⟩ := boxes (w := w) la lb
  have l0 := load_dig ha hL0
  have l1 := load_dig hb hL1
  have HA := Lib.hid ha
  have HB := Lib.hid hb
  clear ha hb
  subst hw0
  go_enter Try.func24, Try.ntmps24
  go_wp2_with (first | (with_reducible refine wpList_loads rfl 35 (.tmp 2) rfl _ rfl _ l0 ?_) | (with_reducible refine wpList_loads rfl 35 (.tmp 3) rfl _ rfl _ l1 ?_))
  refine (compare_any la lb _ HA.out HB.out).mono ?_
  rintro e w1 ⟨rfl, hb1⟩
  go_wp2_with fail
  go_ret
  exact ⟨rfl, grow_trans hg hb1⟩
end Go.Proofs.Ytgkoopnbphohaaa
