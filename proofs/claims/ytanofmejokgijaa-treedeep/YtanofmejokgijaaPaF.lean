/-
  The reference's Split, Join, Compare, Under, NameOf, Made, Short: they answer splitOf, joinOf, compareOf, underOf, nameOf, madeOf, the first bytes.
-/
import Derived.Test.YtanofmejokgijaaPaE
import Derived.Test.YtanofmejokgijaaRAro
import Derived.Test.YtanofmejokgijaaRin
namespace Go.Proofs.Ytanofmejokgijaa
open Go.RowKit
set_option linter.unusedVariables false

theorem piecesGo_len : ∀ (p s y : List UInt8), y ∈ piecesGo p s → y.length ≤ s.length + p.length
  | [], s, y, h => by simp [piecesGo] at h; subst h; simp
  | c :: r, s, y, h => by
    unfold piecesGo at h
    split at h
    · rcases List.mem_cons.1 h with rfl | h
      · omega
      · have := piecesGo_len r [] y h
        simp at this ⊢; omega
    · have := piecesGo_len r (s ++ [c]) y h
      simp at this ⊢; omega
theorem pieces_len (p y : List UInt8) (h : y ∈ piecesOf p) : y.length ≤ p.length := by
  unfold piecesOf at h
  split at h
  · simp at h
  · have := piecesGo_len p [] y h
    simpa using this

set_option maxHeartbeats 1000000 in
theorem rsplit_any (l : List UInt8) (w : World) (hl : l.length ≤ 1000000) :
    Calls Try.prog 47 #[tv l] w fun e w' => ∃ A c, e = .returned (.tuple #[.slice A (splitOf l).1.length c, .int .i64 ((splitOf l).2 : Nat)]) ∧ Texts w' A (splitOf l).1.length c (splitOf l).1 ∧ Grows w w' := by
  have hp := rpieces_any l w hl
  have hlen : ∀ y ∈ piecesOf l, y.length ≤ 1000000 := fun y hy => Nat.le_trans (pieces_len l y hy) hl
  have none_ : ∀ u, Texts u none 0 0 [] := fun u => ⟨rfl, Nat.le_refl _, Nat.zero_le _, Lies.empty, .inl rfl⟩
  obtain ⟨R, hR⟩ : ∃ R, R = splitOf l := ⟨_, rfl⟩
  obtain ⟨P, hP⟩ : ∃ P, P = piecesOf l := ⟨_, rfl⟩
  have hR' : R = if P.all nameB = true then (if 6 < P.length then ([], 3) else (P, 0)) else ([], 2) := by rw [hR, hP]; rfl
  rw [← hR]
  rw [← hP] at hp hlen
  have HLEN := Lib.hid hlen
  clear hlen
  have HP := Lib.hid hp
  have HR := Lib.hid hR'
  clear hR hP hR' hp
  go_enter Try.func47, Try.ntmps47
  go_wp2_with (go_at_call 65; refine HP.out.mono ?_; rintro e w1 ⟨v, rfl, hown, hg1⟩; obtain ⟨A, c, rfl, ht⟩ := Texts.of_own rfl hown; clear hown)
  have hm : P.length ≤ maxLen := Nat.le_trans ht.le ht.cap
  unfold maxLen at hm
  generalize hn : P.length = n at *
  have HN := Lib.hid hn
  clear hn
  go_loopw [5] (fun i wr => ∃ k : Nat, k ≤ n ∧ i = .int .i64 k ∧ Grows w1 wr ∧ Hid ((P.take k).all nameB = true)) (fun i _ => n - (intOf i).toNat)
  case atStart => exact ⟨0, Nat.zero_le _, rfl, Grows.refl _, rfl⟩
  case round =>
    obtain ⟨k, hk, rfl, hg, HE⟩ := hrel
    by_cases hlt : k < n
    · obtain ⟨ad, x, rfl, hx, cx⟩ := texts_at (ht.later hg) hlt
      have hc := rname_any x wr (HLEN.out x (List.mem_of_getElem? hx))
      by_cases hb : nameB x = true
      · rw [hb] at hc
        have HC := Lib.hid hc
        have HE' := Lib.hid (all_more hx HE.out hb)
        clear hc hb hx
        go_wp2_with (go_at_call 34; refine HC.out.mono ?_; rintro e w2 ⟨rfl, hg2⟩)
        go_roundw
        case rel => exact ⟨k + 1, by omega, by go_num, grow_trans hg hg2, HE'.out⟩
        case measure => simp [intOf]; omega
      · have hb' : nameB x = false := Bool.eq_false_iff.2 hb
        rw [hb'] at hc
        have HC := Lib.hid hc
        have hS : R = ([], 2) := by rw [HR.out, all_not hx hb']; rfl
        have HS := Lib.hid hS
        clear hc hb hb' hx hS
        go_wp2_with (go_at_call 34; refine HC.out.mono ?_; rintro e w2 ⟨rfl, hg2⟩)
        go_ret2
        rw [HS.out]
        exact ⟨none, 0, rfl, none_ _, grow_trans hg1 (grow_trans hg hg2)⟩
    · obtain rfl : k = n := by omega
      have ha : P.all nameB = true := by have := HE.out; rwa [List.take_of_length_le (by rw [HN.out]; omega)] at this
      by_cases h6 : 6 < k
      · have hS : R = ([], 3) := by rw [HR.out, if_pos ha, if_pos h6]
        have HS := Lib.hid hS
        clear hS ha
        have h6' : (6 : Int) < (k : Int) := by omega
        go_wp2
        go_ret2
        rw [HS.out]
        exact ⟨none, 0, rfl, none_ _, grow_trans hg1 hg⟩
      · have hS : R = (P, 0) := by rw [HR.out, if_pos ha, if_neg h6]
        have HS := Lib.hid hS
        clear hS ha
        have h6' : ¬ (6 : Int) < (k : Int) := by omega
        go_wp2
        go_ret2
        rw [HS.out]
        have htl := ht.later hg
        exact ⟨A, c, by rw [HN.out]; rfl, by rw [HN.out]; exact htl, grow_trans hg1 hg⟩


theorem join_snoc : ∀ (xs : List (List UInt8)) (x : List UInt8), xs ≠ [] → joinOf (xs ++ [x]) = joinOf xs ++ 47 :: x
  | [], _, h => absurd rfl h
  | [y], x, _ => rfl
  | y :: z :: r, x, _ => by
    rw [List.cons_append, List.cons_append, join_cons, join_cons, ← List.cons_append, join_snoc (z :: r) x (by simp)]
    simp
theorem join_take_len (ls : List (List UInt8)) (k : Nat) : (joinOf (ls.take k)).length ≤ (joinOf ls).length := by
  induction ls generalizing k with
  | nil => simp
  | cons x r ih =>
    cases k with
    | zero => simp [joinOf]
    | succ k =>
      rw [List.take_succ_cons]
      cases r with
      | nil => simp
      | cons y r =>
        cases k with
        | zero => simp [joinOf]
        | succ k =>
          have := ih (k + 1)
          rw [List.take_succ_cons] at this ⊢
          rw [join_cons, join_cons]
          simp at this ⊢
          omega

set_option maxHeartbeats 1000000 in
theorem rjoin_any (A : Option Addr) (n c : Nat) (ls : List (List UInt8)) (w : World) (h : Texts w A n c ls) (hl : (joinOf ls).length ≤ 100000000) :
    Calls Try.prog 48 #[.slice A n c] w fun e w' => e = .returned (tv (joinOf ls)) ∧ Grows w w' := by
  have hm : n ≤ maxLen := Nat.le_trans h.le h.cap
  unfold maxLen at hm
  have HL := Lib.hid hl
  clear hl
  go_enter Try.func48, Try.ntmps48
  go_wp2
  go_loopw [3, 4] (fun s i wr => ∃ k : Nat, k ≤ n ∧ i = .int .i64 k ∧ s = tv (joinOf (ls.take k)) ∧ wr = w) (fun _ i _ => n - (intOf i).toNat)
  case atStart => exact ⟨0, Nat.zero_le _, rfl, rfl, rfl⟩
  case round =>
    obtain ⟨k, hk, rfl, rfl, rfl⟩ := hrel
    by_cases hlt : k < n
    · obtain ⟨ad, x, rfl, hx, cx⟩ := texts_at h hlt
      have b1 := join_take_len ls k
      have b2 := join_take_len ls (k + 1)
      have b3 := HL.out
      by_cases k0 : k = 0
      · subst k0
        have hE : joinOf (ls.take (0 + 1)) = [] ++ x := by rw [take_at hx]; rfl
        have HE := Lib.hid hE
        have cc := run_cat (P := Try.prog) [] x (by rw [hE] at b2; simp at b2 ⊢; omega)
        have hZ : joinOf (ls.take 0) = [] := rfl
        rw [hZ]
        rw [add_zero_eq] at cx
        clear hE hZ hx b1 b2 b3
        go_wp2
        go_roundw
        case rel => exact ⟨0 + 1, by omega, by go_num, by rw [HE.out]; rfl, by first | rfl | trivial⟩
        case measure => simp [intOf]; omega
      · have hE : joinOf (ls.take (k + 1)) = (joinOf (ls.take k) ++ [47]) ++ x := by
          rw [take_at hx, join_snoc _ _ (fun e => by
            have := congrArg List.length e
            rw [List.length_take, h.len] at this
            simp at this; omega)]
          simp
        have HE := Lib.hid hE
        rw [hE] at b2
        have c1 := run_cat (P := Try.prog) (joinOf (ls.take k)) [47] (by simp; omega)
        have c2 := run_cat (P := Try.prog) (joinOf (ls.take k) ++ [47]) x (by simp at b2 ⊢; omega)
        have g0 : (0 : Int) < (k : Int) := by omega
        clear hE hx b1 b2 b3
        obtain ⟨J, hJ⟩ : ∃ J, J = joinOf (ls.take k) := ⟨_, rfl⟩
        rw [← hJ] at HE c1 c2 ⊢
        clear hJ
        go_wp2
        go_roundw
        case rel => exact ⟨k + 1, by omega, by go_num, by rw [HE.out]; simp, by first | rfl | trivial⟩
        case measure => simp [intOf]; omega
    · obtain rfl : k = n := by omega
      have hE : joinOf (ls.take k) = joinOf ls := by rw [List.take_of_length_le (by rw [h.len]; omega)]
      have HE := Lib.hid hE
      obtain ⟨J, hJ⟩ : ∃ J, J = joinOf (ls.take k) := ⟨_, rfl⟩
      rw [← hJ] at HE ⊢
      clear hE hJ
      go_wp2
      go_ret
      exact ⟨by rw [HE.out]; rfl, Grows.refl _⟩

set_option maxHeartbeats 1000000 in
theorem rcompare_any (a b : List UInt8) (w : World) (ha : a.length ≤ 1000000) (hb : b.length ≤ 1000000) :
    Calls Try.prog 40 #[tv a, tv b] w fun e w' => e = .returned (.int .i64 (compareOf a b)) ∧ Grows w w' := by
  have h1 := rpieces_any a w ha
  have h2 := fun u => rpieces_any b u hb
  unfold compareOf
  generalize piecesOf a = X at *
  generalize piecesOf b = Y at *
  have H1 := Lib.hid h1
  have H2 := Lib.hid h2
  clear h1 h2
  obtain ⟨R, hR⟩ : ∃ R, R = cmpL X Y := ⟨_, rfl⟩
  rw [← hR]
  have HR := Lib.hid hR
  clear hR
  go_enter Try.func40, Try.ntmps40
  go_wp2_with (first
    | (go_at_call 65; with_reducible refine H1.out.mono ?_; rintro e w1 ⟨v, rfl, hown, hg1⟩; obtain ⟨A1, c1, rfl, t1⟩ := Texts.of_own rfl hown; clear hown H1)
    | (go_at_call 65; refine (H2.out _).mono ?_; rintro e w2 ⟨v, rfl, hown, hg2⟩; obtain ⟨A2, c2, rfl, t2⟩ := Texts.of_own rfl hown; clear hown))
  replace t1 := t1.later hg2
  have m1 : X.length ≤ maxLen := Nat.le_trans t1.le t1.cap
  have m2 : Y.length ≤ maxLen := Nat.le_trans t2.le t2.cap
  unfold maxLen at m1 m2
  obtain ⟨n1, hn1⟩ : ∃ n1, n1 = X.length := ⟨_, rfl⟩
  obtain ⟨n2, hn2⟩ : ∃ n2, n2 = Y.length := ⟨_, rfl⟩
  rw [← hn1] at t1 m1 ⊢
  rw [← hn2] at t2 m2 ⊢
  have HN1 := Lib.hid hn1
  have HN2 := Lib.hid hn2
  clear hn1 hn2
  go_loopw [7] (fun i wr => ∃ k : Nat, k ≤ n1 ∧ k ≤ n2 ∧ i = .int .i64 k ∧ Grows w2 wr ∧ Hid (R = cmpL (X.drop k) (Y.drop k))) (fun i _ => n1 - (intOf i).toNat)
  case atStart => exact ⟨0, Nat.zero_le _, Nat.zero_le _, rfl, Grows.refl _, HR.out⟩
  case round =>
    obtain ⟨k, k1, k2, rfl, hg, HE⟩ := hrel
    have hgo : Grows w wr := grow_trans hg1 (grow_trans hg2 hg)
    by_cases hlt : k < n1
    · obtain ⟨ad, x, rfl, hx, cx⟩ := texts_at (t1.later hg) hlt
      by_cases hlt2 : k < n2
      · obtain ⟨bd, y, rfl, hy, cy⟩ := texts_at (t2.later hg) hlt2
        have q0 : (0 : Int) ≤ (k : Int) := Int.natCast_nonneg _
        have q1 : (k : Int) < (n1 : Int) := by omega
        have q2 : (k : Int) < (n2 : Int) := by omega
        have l1 := fun t => run_tlt t x y
        have g1 := fun t => run_tgt t x y
        have hS : R = (if cmpB x y = 0 then cmpL (X.drop (k + 1)) (Y.drop (k + 1)) else cmpB x y) := by rw [HE.out, drop_at hx, drop_at hy, cmpL]
        have hv := cmpB_val x y
        obtain ⟨z, hz⟩ : ∃ z, z = cmpB x y := ⟨_, rfl⟩
        rw [← hz] at l1 g1 hS hv
        have HS := Lib.hid hS
        clear hS hx hy hz
        rcases hv with rfl | rfl | rfl
        · simp at l1 g1
          go_wp2
          go_quiet (fail)
          go_wp2
          go_ret
          exact ⟨by rw [HS.out]; rfl, below_draws hgo⟩
        · simp at l1 g1
          go_wp2
          go_quiet (fail)
          go_wp2
          go_quiet (fail)
          go_wp2
          go_roundw
          case rel => exact ⟨k + 1, by omega, by omega, by go_num, (by first | exact below_draws hg | exact below_draws (below_draws hg)), by show _ = _; rw [HS.out]; rfl⟩
          case measure => simp [intOf]; omega
        · simp at l1 g1
          go_wp2
          go_quiet (fail)
          go_wp2
          go_quiet (fail)
          go_wp2
          go_ret
          exact ⟨by rw [HS.out]; rfl, (by first | exact below_draws hgo | exact below_draws (below_draws hgo))⟩
      · obtain rfl : k = n2 := by omega
        have e2 : Y.drop k = [] := List.drop_eq_nil_of_le (by rw [t2.len]; omega)
        have hS : R = 1 := by rw [HE.out, drop_at hx, e2, cmpL]
        have HS := Lib.hid hS
        clear hS hx e2 cx
        have q1 : (k : Int) < (n1 : Int) := by omega
        have q2 : ¬ (n1 : Int) < (k : Int) := by omega
        go_wp2
        go_ret
        exact ⟨by rw [HS.out]; rfl, hgo⟩
    · obtain rfl : k = n1 := by omega
      have e1 : X.drop k = [] := List.drop_eq_nil_of_le (by rw [t1.len]; omega)
      by_cases hlt2 : k < n2
      · obtain ⟨bd, y, rfl, hy, cy⟩ := texts_at (t2.later hg) hlt2
        have hS : R = -1 := by rw [HE.out, e1, drop_at hy, cmpL]
        have HS := Lib.hid hS
        clear hS hy e1 cy
        have g2 : (k : Int) < (n2 : Int) := by omega
        go_wp2
        go_ret
        exact ⟨by rw [HS.out]; rfl, hgo⟩
      · obtain rfl : k = n2 := by omega
        have e2 : Y.drop k = [] := List.drop_eq_nil_of_le (by rw [t2.len]; omega)
        have hS : R = 0 := by rw [HE.out, e1, e2, cmpL]
        have HS := Lib.hid hS
        clear hS e1 e2
        go_wp2
        go_ret
        exact ⟨by rw [HS.out]; rfl, hgo⟩

theorem take_ne {α : Type} {X Y : List α} {k : Nat} {x y : α} (hx : X[k]? = some x) (hy : Y[k]? = some y) (hk : k < Y.length) (hn : x ≠ y) : X.take Y.length ≠ Y := fun e => by
  have h1 : (X.take Y.length)[k]? = some x := by rw [List.getElem?_take, if_pos hk]; exact hx
  rw [e, hy] at h1
  injection h1 with h1
  exact hn h1.symm

end Go.Proofs.Ytanofmejokgijaa
