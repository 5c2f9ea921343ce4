/-
  cmp.Compare of texts, slices.Compare and slices.Equal of rows of texts, the reference's SameTexts. No condition but that the texts lie there.
-/
import Derived.Test.YtanofmejokgijaaPaB
import Derived.Deep.QuietTactic
import Derived.BigQuiet
namespace Go.Proofs.Ytanofmejokgijaa
open Go.RowKit
set_option linter.unusedVariables false

theorem less_cmp (x y : List UInt8) : Op.bytesLess x y = decide (cmpB x y = -1) := by
  induction x generalizing y with
  | nil => cases y <;> simp [Op.bytesLess, cmpB]
  | cons a x ih =>
    cases y with
    | nil => simp [Op.bytesLess, cmpB]
    | cons b y =>
      rw [Op.bytesLess, cmpB, ih]
      by_cases h1 : a.toNat < b.toNat
      · have : a < b := UInt8.lt_iff_toNat_lt.2 h1
        simp [h1, this]
      · have n1 : ¬ a < b := fun e => h1 (UInt8.lt_iff_toNat_lt.1 e)
        by_cases h2 : b.toNat < a.toNat
        · have : a ≠ b := fun e => by subst e; omega
          simp [h1, h2, n1, this]
        · obtain rfl : a = b := UInt8.toNat_inj.1 (by omega)
          simp
theorem run_tlt (t : TypeId) (x y : List UInt8) : binOp .lss t (tv x) (tv y) = (pure (.bool (decide (cmpB x y = -1))) : Sem Value) := by rw [binOp_string_lss, toList_mk, toList_mk, less_cmp]
theorem run_tgt (t : TypeId) (x y : List UInt8) : binOp .gtr t (tv x) (tv y) = (pure (.bool (decide (cmpB x y = 1))) : Sem Value) := by
  rw [binOp_string_gtr, toList_mk, toList_mk, less_cmp]
  have h := cmpB_eq x y
  rcases cmpB_val x y with e | e | e
  · simp [e]
  · have := h.1 e
    subst this
    simp [e]
  · have : x ≠ y := fun q => by have := h.2 q; omega
    have b : (x == y) = false := by rw [beq_eq_false_iff_ne]; exact this
    rw [b]
    simp [e]

set_option maxHeartbeats 400000 in
theorem cmp_any (x y : List UInt8) (w : World) : Calls Try.prog 105 #[tv x, tv y] w fun e w' => e = .returned (.int .i64 (cmpB x y)) ∧ w' = w := by
  have n1 : ∀ t, binOp .neq t (tv x) (tv x) = (pure (.bool false) : Sem Value) := fun t => by rw [run_tne (P := Try.prog)]; simp
  have n2 : ∀ t, binOp .neq t (tv y) (tv y) = (pure (.bool false) : Sem Value) := fun t => by rw [run_tne (P := Try.prog)]; simp
  have l1 := fun t => run_tlt t x y
  have g1 := fun t => run_tgt t x y
  obtain ⟨c, hc⟩ : ∃ c, c = cmpB x y := ⟨_, rfl⟩
  have hv := cmpB_val x y
  rw [← hc] at l1 g1 hv ⊢
  clear hc
  rcases hv with rfl | rfl | rfl
  all_goals
    simp at l1 g1
    go_enter Try.func105, Try.ntmps105
    go_wp2
    go_ret
    exact ⟨rfl, rfl⟩

theorem texts_at {w : World} {A : Option Addr} {n c : Nat} {ls : List (List UInt8)} (h : Texts w A n c ls) {k : Nat} (hk : k < n) : ∃ ad x, A = some ad ∧ ls[k]? = some x ∧ w.cell? (ad.add k) = some (tv x) := by
  obtain ⟨x, hx⟩ : ∃ x, ls[k]? = some x := ⟨_, List.getElem?_eq_getElem (by rw [h.len]; exact hk)⟩
  obtain ⟨ad, e, _, hc⟩ := h.lies.at_ (j := k) (u := tv x) (by rw [List.getElem?_map, hx]; rfl)
  exact ⟨ad, x, e, hx, hc⟩
theorem drop_at {α : Type} {l : List α} {k : Nat} {x : α} (h : l[k]? = some x) : l.drop k = x :: l.drop (k + 1) := by
  obtain ⟨hk, e⟩ := List.getElem?_eq_some_iff.1 h
  rw [List.drop_eq_getElem_cons hk, e]
theorem take_at {α : Type} {l : List α} {k : Nat} {x : α} (h : l[k]? = some x) : l.take (k + 1) = l.take k ++ [x] := by
  rw [List.take_add_one, h]; rfl

set_option maxHeartbeats 1000000 in
theorem scmp_any (A1 : Option Addr) (n1 c1 : Nat) (xs : List (List UInt8)) (A2 : Option Addr) (n2 c2 : Nat) (ys : List (List UInt8)) (w : World) (h1 : Texts w A1 n1 c1 xs) (h2 : Texts w A2 n2 c2 ys) :
    Calls Try.prog 90 #[.slice A1 n1 c1, .slice A2 n2 c2] w fun e w' => e = .returned (.int .i64 (cmpL xs ys)) ∧ Grows w w' := by
  have m1 : n1 ≤ maxLen := Nat.le_trans h1.le h1.cap
  have m2 : n2 ≤ maxLen := Nat.le_trans h2.le h2.cap
  unfold maxLen at m1 m2
  obtain ⟨R, hR⟩ : ∃ R, R = cmpL xs ys := ⟨_, rfl⟩
  rw [← hR]
  go_enter Try.func90, Try.ntmps90
  go_wp2
  go_loopw [11] (fun i wr => ∃ k : Nat, k ≤ n1 ∧ k ≤ n2 ∧ i = .int .i64 k ∧ wr = w ∧ Hid (R = cmpL (xs.drop k) (ys.drop k))) (fun i _ => n1 - (intOf i).toNat)
  case atStart => exact ⟨0, Nat.zero_le _, Nat.zero_le _, rfl, rfl, hR⟩
  case round =>
    obtain ⟨k, k1, k2, rfl, rfl, HR⟩ := hrel
    clear hR
    by_cases hlt : k < n1
    · obtain ⟨ad, x, rfl, hx, cx⟩ := texts_at h1 hlt
      by_cases hlt2 : k < n2
      · obtain ⟨bd, y, rfl, hy, cy⟩ := texts_at h2 hlt2
        have g2 : ¬ (n2 : Int) ≤ (k : Int) := by omega
        have hc := cmp_any x y wr
        have hS : R = (if cmpB x y = 0 then cmpL (xs.drop (k + 1)) (ys.drop (k + 1)) else cmpB x y) := by rw [HR.out, drop_at hx, drop_at hy, cmpL]
        have hv := cmpB_val x y
        obtain ⟨z, hz⟩ : ∃ z, z = cmpB x y := ⟨_, rfl⟩
        rw [← hz] at hc hS hv
        have HC := Lib.hid hc
        have HS := Lib.hid hS
        clear hc hS hx hy hz
        rcases hv with rfl | rfl | rfl
        · go_wp2_with (go_at_call 105; refine HC.out.mono ?_; rintro e w' ⟨rfl, rfl⟩)
          go_ret
          exact ⟨by rw [HS.out]; rfl, Grows.refl _⟩
        · go_wp2_with (go_at_call 105; refine HC.out.mono ?_; rintro e w' ⟨rfl, rfl⟩)
          go_roundw
          case rel => exact ⟨k + 1, by omega, by omega, by go_num, by first | rfl | trivial, by show _ = _; rw [HS.out]; rfl⟩
          case measure => simp [intOf]; omega
        · go_wp2_with (go_at_call 105; refine HC.out.mono ?_; rintro e w' ⟨rfl, rfl⟩)
          go_ret
          exact ⟨by rw [HS.out]; rfl, Grows.refl _⟩
      · have g2 : (n2 : Int) ≤ (k : Int) := by omega
        have e2 : ys.drop k = [] := List.drop_eq_nil_of_le (by rw [h2.len]; omega)
        have hS : R = 1 := by rw [HR.out, drop_at hx, e2, cmpL]
        have HS := Lib.hid hS
        clear hS hx e2
        go_wp2
        go_ret
        exact ⟨by rw [HS.out]; rfl, Grows.refl _⟩
    · obtain rfl : k = n1 := by omega
      have e1 : xs.drop k = [] := List.drop_eq_nil_of_le (by rw [h1.len]; omega)
      by_cases hlt2 : k < n2
      · obtain ⟨bd, y, rfl, hy, cy⟩ := texts_at h2 hlt2
        have hS : R = -1 := by rw [HR.out, e1, drop_at hy, cmpL]
        have HS := Lib.hid hS
        clear hS hy e1 cy
        have g2 : (k : Int) < (n2 : Int) := by omega
        go_wp2
        go_ret
        exact ⟨by rw [HS.out]; rfl, Grows.refl _⟩
      · have e2 : ys.drop k = [] := List.drop_eq_nil_of_le (by rw [h2.len]; omega)
        have hS : R = 0 := by rw [HR.out, e1, e2, cmpL]
        have HS := Lib.hid hS
        clear hS e1 e2
        have g2 : ¬ (k : Int) < (n2 : Int) := by omega
        go_wp2
        go_ret
        exact ⟨by rw [HS.out]; rfl, Grows.refl _⟩

theorem eq_step {α : Type} [BEq α] [LawfulBEq α] {xs ys : List α} {k : Nat} {x y : α} (hx : xs[k]? = some x) (hy : ys[k]? = some y) (h : xs.take k = ys.take k) (e : x = y) : xs.take (k + 1) = ys.take (k + 1) := by
  rw [take_at hx, take_at hy, h, e]

set_option maxHeartbeats 1000000 in
theorem seq_any (A1 : Option Addr) (n1 c1 : Nat) (xs : List (List UInt8)) (A2 : Option Addr) (n2 c2 : Nat) (ys : List (List UInt8)) (w : World) (h1 : Texts w A1 n1 c1 xs) (h2 : Texts w A2 n2 c2 ys) :
    Calls Try.prog 91 #[.slice A1 n1 c1, .slice A2 n2 c2] w fun e w' => e = .returned (.bool (xs == ys)) ∧ Grows w w' := by
  have m1 : n1 ≤ maxLen := Nat.le_trans h1.le h1.cap
  have m2 : n2 ≤ maxLen := Nat.le_trans h2.le h2.cap
  unfold maxLen at m1 m2
  obtain ⟨R, hR⟩ : ∃ R, R = (xs == ys) := ⟨_, rfl⟩
  rw [← hR]
  have HR := Lib.hid hR
  clear hR
  by_cases hn : n1 = n2
  · subst hn
    go_enter Try.func91, Try.ntmps91
    go_wp2
    go_loopw [13] (fun i wr => ∃ k : Nat, k ≤ n1 ∧ i = .int .i64 k ∧ Grows w wr ∧ Hid (xs.take k = ys.take k)) (fun i _ => n1 - (intOf i).toNat)
    case atStart => exact ⟨0, Nat.zero_le _, rfl, Grows.refl _, rfl⟩
    case round =>
      obtain ⟨k, k1, rfl, hg, HE⟩ := hrel
      by_cases hlt : k < n1
      · obtain ⟨ad, x, rfl, hx, cx⟩ := texts_at (h1.later hg) hlt
        obtain ⟨bd, y, rfl, hy, cy⟩ := texts_at (h2.later hg) hlt
        have q0 : (0 : Int) ≤ (k : Int) := Int.natCast_nonneg _
        have q1 : (k : Int) < (n1 : Int) := by omega
        have hne : ∀ t, binOp .neq t (tv x) (tv y) = (pure (.bool !(x == y)) : Sem Value) := fun t => run_tne (P := Try.prog) t x y
        have HX := Lib.hid hx
        have HY := Lib.hid hy
        clear hx hy
        by_cases e : x = y
        · have eb : (x == y) = true := by rw [beq_iff_eq]; exact e
          rw [eb] at hne
          have EQ := Lib.hid e
          clear eb e
          go_wp2
          go_quiet (fail)
          go_wp2
          go_roundw
          case rel => exact ⟨k + 1, by omega, by go_num, below_draws hg, eq_step HX.out HY.out HE.out EQ.out⟩
          case measure => simp [intOf]; omega
        · have eb : (x == y) = false := by rw [beq_eq_false_iff_ne]; exact e
          rw [eb] at hne
          have hN : R = false := by
            rw [HR.out, beq_eq_false_iff_ne]
            intro q
            rw [q, HY.out] at HX
            exact e (Option.some.inj HX.out).symm
          have HN := Lib.hid hN
          clear eb hN e
          go_wp2
          go_quiet (fail)
          go_wp2
          go_ret
          exact ⟨by rw [HN.out]; rfl, below_draws hg⟩
      · obtain rfl : k = n1 := by omega
        have hN : R = true := by
          have e := HE.out
          rw [List.take_of_length_le (by rw [h1.len]; omega), List.take_of_length_le (by rw [h2.len]; omega)] at e
          rw [HR.out, beq_iff_eq, e]
        have HN := Lib.hid hN
        clear hN
        go_wp2
        go_ret
        exact ⟨by rw [HN.out]; rfl, hg⟩
  · have hN : R = false := by
      rw [HR.out, beq_eq_false_iff_ne]
      intro q
      exact hn (by rw [← h1.len, ← h2.len, q])
    have HN := Lib.hid hN
    have hb : ((n1 : Int) == (n2 : Int)) = false := by simp; omega
    clear hN
    go_enter Try.func91, Try.ntmps91
    go_wp2
    go_ret
    exact ⟨by rw [HN.out]; rfl, Grows.refl _⟩

end Go.Proofs.Ytanofmejokgijaa
