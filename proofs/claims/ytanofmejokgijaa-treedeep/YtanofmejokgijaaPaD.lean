/-
  path.Split, Join, Compare, Under, Parent, Base: they answer splitOf, joinOf, compareOf, underOf, parentOf, baseOf. Condition: at most a million bytes.
-/
import Derived.Test.YtanofmejokgijaaPaS
import Derived.Test.YtanofmejokgijaaPaC
import Derived.Test.YtanofmejokgijaaCut
namespace Go.Proofs.Ytanofmejokgijaa
open Go.RowKit
set_option linter.unusedVariables false

theorem str_one : (Try.prog.info? 9).map (·.size) = some 1 := by kernel_rfl
theorem piecesGo_count : ∀ (p s : List UInt8), (piecesGo p s).length ≤ p.length + 1
  | [], s => by simp [piecesGo]
  | c :: r, s => by
    unfold piecesGo
    split
    · have := piecesGo_count r []
      simp; omega
    · have := piecesGo_count r (s ++ [c])
      simp; omega
theorem pieces_count (p : List UInt8) : (piecesOf p).length ≤ p.length + 1 := by
  unfold piecesOf
  split
  · simp
  · exact piecesGo_count p []
theorem Texts.take_ {w : World} {A : Option Addr} {n c : Nat} {ls : List (List UInt8)} (h : Texts w A n c ls) (m : Nat) (hm : m ≤ n) : Texts w A m c (ls.take m) :=
  ⟨by rw [List.length_take, h.len]; omega, Nat.le_trans hm h.le, h.cap, by rw [List.map_take]; exact h.lies.take m, h.plain⟩
theorem all_more {ls : List (List UInt8)} {k : Nat} {x : List UInt8} (hx : ls[k]? = some x) (h : (ls.take k).all nameB = true) (hn : nameB x = true) : (ls.take (k + 1)).all nameB = true := by
  rw [take_at hx, List.all_append, h]; simp [hn]
theorem all_not {ls : List (List UInt8)} {k : Nat} {x : List UInt8} (hx : ls[k]? = some x) (hn : nameB x = false) : ls.all nameB = false := by
  rw [List.all_eq_false]
  exact ⟨x, List.mem_of_getElem? hx, by rw [hn]; simp⟩

set_option maxHeartbeats 1000000 in
theorem split_any (l : List UInt8) (w : World) (hl : l.length ≤ 1000000) :
    Calls Try.prog 87 #[tv l] w fun e w' => ∃ A c, e = .returned (.tuple #[.slice A (splitOf l).1.length c, .int .i64 ((splitOf l).2 : Nat)]) ∧ Texts w' A (splitOf l).1.length c (splitOf l).1 ∧ Grows w w' := by
  have hp := pieces_any l w hl
  have none_ : ∀ u, Texts u none 0 0 [] := fun u => ⟨rfl, Nat.le_refl _, Nat.zero_le _, Lies.empty, .inl rfl⟩
  obtain ⟨R, hR⟩ : ∃ R, R = splitOf l := ⟨_, rfl⟩
  obtain ⟨P, hP⟩ : ∃ P, P = piecesOf l := ⟨_, rfl⟩
  have hR' : R = if P.all nameB = true then (if 6 < P.length then ([], 3) else (P, 0)) else ([], 2) := by rw [hR, hP]; rfl
  rw [← hR]
  rw [← hP] at hp
  have HP := Lib.hid hp
  have HR := Lib.hid hR'
  clear hR hP hR' hp
  go_enter Try.func87, Try.ntmps87
  go_wp2_with (go_at_call 89; refine HP.out.mono ?_; rintro e w1 ⟨v, rfl, hown, hg1⟩; obtain ⟨A, c, rfl, ht⟩ := Texts.of_own rfl hown; clear hown)
  have hm : P.length ≤ maxLen := Nat.le_trans ht.le ht.cap
  unfold maxLen at hm
  generalize hn : P.length = n at *
  have HN := Lib.hid hn
  clear hn
  go_loopw [11] (fun i wr => ∃ k : Nat, k ≤ n ∧ i = .int .i64 k ∧ Grows w1 wr ∧ Hid ((P.take k).all nameB = true)) (fun i _ => n - (intOf i).toNat)
  case atStart => exact ⟨0, Nat.zero_le _, rfl, Grows.refl _, rfl⟩
  case round =>
    obtain ⟨k, hk, rfl, hg, HE⟩ := hrel
    by_cases hlt : k < n
    · obtain ⟨ad, x, rfl, hx, cx⟩ := texts_at (ht.later hg) hlt
      have hc := name_any x wr
      by_cases hb : nameB x = true
      · rw [hb] at hc
        have HC := Lib.hid hc
        have HE' := Lib.hid (all_more hx HE.out hb)
        clear hc hb hx
        go_wp2_with (go_at_call 60; refine HC.out.mono ?_; rintro e w2 ⟨rfl, hg2⟩)
        go_roundw
        case rel => exact ⟨k + 1, by omega, by go_num, grow_trans hg hg2, HE'.out⟩
        case measure => simp [intOf]; omega
      · have hb' : nameB x = false := Bool.eq_false_iff.2 hb
        rw [hb'] at hc
        have HC := Lib.hid hc
        have hS : R = ([], 2) := by rw [HR.out, all_not hx hb']; rfl
        have HS := Lib.hid hS
        clear hc hb hb' hx hS
        go_wp2_with (go_at_call 60; refine HC.out.mono ?_; rintro e w2 ⟨rfl, hg2⟩)
        go_ret2
        rw [HS.out]
        exact ⟨none, 0, rfl, none_ _, grow_trans hg1 (grow_trans hg hg2)⟩
    · obtain rfl : k = n := by omega
      have ha : P.all nameB = true := by have := HE.out; rwa [List.take_of_length_le (by rw [HN.out]; omega)] at this
      by_cases h6 : 6 < k
      · have hS : R = ([], 3) := by rw [HR.out, if_pos ha, if_pos h6]
        have HS := Lib.hid hS
        clear hS ha
        have h6' : (6 : Int) < (k : Int) := by omega
        go_wp2
        go_ret2
        rw [HS.out]
        exact ⟨none, 0, rfl, none_ _, grow_trans hg1 hg⟩
      · have hS : R = (P, 0) := by rw [HR.out, if_pos ha, if_neg h6]
        have HS := Lib.hid hS
        clear hS ha
        have h6' : ¬ (6 : Int) < (k : Int) := by omega
        go_wp2
        go_ret2
        rw [HS.out]
        have htl := ht.later hg
        exact ⟨A, c, by rw [HN.out]; rfl, by rw [HN.out]; exact htl, grow_trans hg1 hg⟩

set_option maxHeartbeats 400000 in
theorem join_any (A : Option Addr) (n c : Nat) (ls : List (List UInt8)) (w : World) (h : Texts w A n c ls) (hn : n ≤ 1000000) (hl : (joinOf ls).length ≤ 100000000) :
    Calls Try.prog 42 #[.slice A n c] w fun e w' => e = .returned (tv (joinOf ls)) ∧ Grows w w' := by
  have hc := sjoin_any A n c ls w h hn hl
  generalize joinOf ls = R at *
  have HC := Lib.hid hc
  clear hc
  go_enter Try.func42, Try.ntmps42
  go_wp2_with (go_at_call 66; refine HC.out.mono ?_; rintro e w1 ⟨rfl, hg1⟩)
  go_ret
  exact ⟨rfl, hg1⟩

set_option maxHeartbeats 400000 in
theorem compare_any (a b : List UInt8) (w : World) (ha : a.length ≤ 1000000) (hb : b.length ≤ 1000000) :
    Calls Try.prog 73 #[tv a, tv b] w fun e w' => e = .returned (.int .i64 (compareOf a b)) ∧ Grows w w' := by
  have h1 := pieces_any a w ha
  have h2 := fun u => pieces_any b u hb
  unfold compareOf
  generalize piecesOf a = X at *
  generalize piecesOf b = Y at *
  have H1 := Lib.hid h1
  have H2 := Lib.hid h2
  clear h1 h2
  obtain ⟨R, hR⟩ : ∃ R, R = cmpL X Y := ⟨_, rfl⟩
  rw [← hR]
  have HR := Lib.hid hR
  clear hR
  go_enter Try.func73, Try.ntmps73
  go_wp2_with (first
    | (go_at_call 89; with_reducible refine H1.out.mono ?_; rintro e w1 ⟨v, rfl, hown, hg1⟩; obtain ⟨A1, c1, rfl, t1⟩ := Texts.of_own rfl hown; clear hown H1)
    | (go_at_call 89; refine (H2.out _).mono ?_; rintro e w2 ⟨v, rfl, hown, hg2⟩; obtain ⟨A2, c2, rfl, t2⟩ := Texts.of_own rfl hown; clear hown; have hc := scmp_any A1 _ c1 X A2 _ c2 Y w2 (t1.later hg2) t2; rw [← HR.out] at hc; have HC := Lib.hid hc; clear hc)
    | (go_at_call 90; refine HC.out.mono ?_; rintro e w3 ⟨rfl, hg3⟩))
  go_ret
  exact ⟨rfl, grow_trans hg1 (grow_trans hg2 hg3)⟩

set_option maxHeartbeats 400000 in
theorem under_any (a b : List UInt8) (w : World) (ha : a.length ≤ 1000000) (hb : b.length ≤ 1000000) :
    Calls Try.prog 74 #[tv a, tv b] w fun e w' => e = .returned (.bool (underOf a b)) ∧ Grows w w' := by
  have h1 := pieces_any a w ha
  have h2 := fun u => pieces_any b u hb
  unfold underOf
  generalize piecesOf a = X at *
  generalize piecesOf b = Y at *
  have H1 := Lib.hid h1
  have H2 := Lib.hid h2
  clear h1 h2
  obtain ⟨R, hR⟩ : ∃ R, R = (decide (Y.length < X.length) && X.take Y.length == Y) := ⟨_, rfl⟩
  rw [← hR]
  have HR := Lib.hid hR
  clear hR
  by_cases hlt : Y.length < X.length
  · have hS : R = (X.take Y.length == Y) := by rw [HR.out, decide_eq_true hlt, Bool.true_and]
    have HS := Lib.hid hS
    have hlt' : (Y.length : Int) < (X.length : Int) := by omega
    clear hS
    go_enter Try.func74, Try.ntmps74
    go_wp2_with (first
      | (go_at_call 89; with_reducible refine H1.out.mono ?_; rintro e w1 ⟨v, rfl, hown, hg1⟩; obtain ⟨A1, c1, rfl, t1⟩ := Texts.of_own rfl hown; clear hown H1)
      | (go_at_call 89; refine (H2.out _).mono ?_; rintro e w2 ⟨v, rfl, hown, hg2⟩; obtain ⟨A2, c2, rfl, t2⟩ := Texts.of_own rfl hown; clear hown; have hle := t1.le; have ct := run_cut_to (P := Try.prog) Try.underlying60 str_one A1 X.length c1 Y.length .i64 (by omega); have hc := seq_any A1 _ c1 _ A2 _ c2 Y w2 ((t1.later hg2).take_ Y.length (by omega)) t2; rw [← HS.out] at hc; have HC := Lib.hid hc; clear hc)
      | (go_at_call 91; refine HC.out.mono ?_; rintro e w3 ⟨rfl, hg3⟩))
    go_ret
    exact ⟨rfl, grow_trans hg1 (grow_trans hg2 hg3)⟩
  · have hlt' : ¬ (Y.length : Int) < (X.length : Int) := by omega
    have hS : R = false := by rw [HR.out, decide_eq_false hlt, Bool.false_and]
    have HS := Lib.hid hS
    clear hS
    go_enter Try.func74, Try.ntmps74
    go_wp2_with (first
      | (go_at_call 89; with_reducible refine H1.out.mono ?_; rintro e w1 ⟨v, rfl, hown, hg1⟩; obtain ⟨A1, c1, rfl, t1⟩ := Texts.of_own rfl hown; clear hown H1)
      | (go_at_call 89; refine (H2.out _).mono ?_; rintro e w2 ⟨v, rfl, hown, hg2⟩; obtain ⟨A2, c2, rfl, t2⟩ := Texts.of_own rfl hown; clear hown))
    go_ret
    exact ⟨by rw [HS.out]; rfl, grow_trans hg1 hg2⟩

theorem piecesGo_bytes : ∀ (p s : List UInt8), (joinOf (piecesGo p s).dropLast).length ≤ s.length + p.length
  | [], s => by simp [piecesGo, joinOf]
  | c :: r, s => by
    unfold piecesGo
    split
    · have ih := piecesGo_bytes r []
      have hne := piecesGo_ne r []
      match hq : piecesGo r [], hne with
      | [y], _ => simp [joinOf]
      | y :: z :: t, _ =>
        rw [hq] at ih
        rw [List.dropLast_cons_of_ne_nil (by simp), List.dropLast_cons_of_ne_nil (by simp), join_cons]
        rw [List.dropLast_cons_of_ne_nil (by simp)] at ih
        simp at ih ⊢
        omega
    · have ih := piecesGo_bytes r (s ++ [c])
      simp at ih ⊢
      omega
theorem parent_len (p : List UInt8) : (parentOf p).length ≤ p.length := by
  unfold parentOf piecesOf
  split
  · simp [joinOf]
  · have := piecesGo_bytes p []
    simpa using this

theorem last_at {α : Type} (X : List α) (d : α) (h : 0 < X.length) : X[X.length - 1]? = some (X.getLastD d) := by
  rw [← List.getLast?_eq_getElem?, List.getLastD_eq_getLast?]
  cases hq : X.getLast? with
  | none => rw [List.getLast?_eq_none_iff] at hq; subst hq; simp at h
  | some y => rfl

set_option maxHeartbeats 400000 in
theorem parent_any (a : List UInt8) (w : World) (ha : a.length ≤ 900000) :
    Calls Try.prog 72 #[tv a] w fun e w' => e = .returned (tv (parentOf a)) ∧ Grows w w' := by
  have h1 := pieces_any a w (by omega)
  have hc1 := pieces_count a
  have hpl := parent_len a
  unfold parentOf at hpl ⊢
  generalize piecesOf a = X at *
  have H1 := Lib.hid h1
  clear h1
  obtain ⟨R, hR⟩ : ∃ R, R = joinOf X.dropLast := ⟨_, rfl⟩
  rw [← hR] at hpl ⊢
  have HR := Lib.hid hR
  have HPL := Lib.hid hpl
  have HC1 := Lib.hid hc1
  clear hR hpl hc1
  by_cases h0 : X = []
  · subst h0
    have hS : R = [] := by rw [HR.out]; rfl
    have HS := Lib.hid hS
    clear hS
    go_enter Try.func72, Try.ntmps72
    go_wp2_with (go_at_call 89; with_reducible refine H1.out.mono ?_; rintro e w1 ⟨v, rfl, hown, hg1⟩; obtain ⟨A1, c1, rfl, t1⟩ := Texts.of_own rfl hown; clear hown H1)
    go_ret
    exact ⟨by rw [HS.out]; rfl, hg1⟩
  · obtain ⟨n, hn⟩ : ∃ n, X.length = n + 1 := by
      cases X with
      | nil => exact absurd rfl h0
      | cons x r => exact ⟨r.length, rfl⟩
    clear h0
    have hX : X.dropLast = X.take n := by rw [List.dropLast_eq_take, hn]; rfl
    have hj : joinOf (X.take n) = R := by rw [HR.out, hX]
    have HJ := Lib.hid hj
    have HN := Lib.hid hn
    clear hj hX
    have hm : n ≤ 1000000 := by have := HC1.out; omega
    have b1 : (((n : Int) + 1) == 0) = false := by simp; omega
    have s1 : IntKind.wrap .i64 ((n : Int) + 1 - 1) = (n : Int) := by rw [IntKind.wrap_i64]; omega
    rw [hn] at H1
    clear hn
    go_enter Try.func72, Try.ntmps72
    go_wp2_with (first
      | (go_at_call 89; with_reducible refine H1.out.mono ?_; rintro e w1 ⟨v, rfl, hown, hg1⟩; obtain ⟨A1, c1, rfl, t1⟩ := Texts.of_own HN.out hown; clear hown H1; have hle := t1.le; have ct := run_cut_to (P := Try.prog) Try.underlying60 str_one A1 (n + 1) c1 n .i64 (by omega); have hc := join_any A1 n c1 _ w1 (t1.take_ n (by omega)) hm (by rw [HJ.out]; have := HPL.out; omega); rw [HJ.out] at hc; have HC := Lib.hid hc; clear hc)
      | (go_at_call 42; refine HC.out.mono ?_; rintro e w2 ⟨rfl, hg2⟩))
    go_ret
    exact ⟨rfl, grow_trans hg1 hg2⟩

set_option maxHeartbeats 400000 in
theorem base_any (a : List UInt8) (w : World) (ha : a.length ≤ 900000) :
    Calls Try.prog 88 #[tv a] w fun e w' => e = .returned (tv (baseOf a)) ∧ Grows w w' := by
  have h1 := pieces_any a w (by omega)
  have hc1 := pieces_count a
  unfold baseOf
  generalize piecesOf a = X at *
  have H1 := Lib.hid h1
  clear h1
  obtain ⟨R, hR⟩ : ∃ R, R = X.getLastD [] := ⟨_, rfl⟩
  rw [← hR]
  have HR := Lib.hid hR
  have HC1 := Lib.hid hc1
  clear hR hc1
  by_cases h0 : X = []
  · subst h0
    have hS : R = [] := by rw [HR.out]; rfl
    have HS := Lib.hid hS
    clear hS
    go_enter Try.func88, Try.ntmps88
    go_wp2_with (go_at_call 89; with_reducible refine H1.out.mono ?_; rintro e w1 ⟨v, rfl, hown, hg1⟩; obtain ⟨A1, c1, rfl, t1⟩ := Texts.of_own rfl hown; clear hown H1)
    go_ret
    exact ⟨by rw [HS.out]; rfl, hg1⟩
  · obtain ⟨n, hn⟩ : ∃ n, X.length = n + 1 := by
      cases X with
      | nil => exact absurd rfl h0
      | cons x r => exact ⟨r.length, rfl⟩
    clear h0
    have hX : X[n]? = some R := by have := last_at X [] (by omega); rw [hn, ← HR.out] at this; exact this
    have HX := Lib.hid hX
    have HN := Lib.hid hn
    clear hX
    have hm : n ≤ 1000000 := by have := HC1.out; omega
    have b1 : (((n : Int) + 1) == 0) = false := by simp; omega
    have s1 : IntKind.wrap .i64 ((n : Int) + 1 - 1) = (n : Int) := by rw [IntKind.wrap_i64]; omega
    rw [hn] at H1
    clear hn
    go_enter Try.func88, Try.ntmps88
    go_wp2_with (go_at_call 89; with_reducible refine H1.out.mono ?_; rintro e w1 ⟨v, rfl, hown, hg1⟩; obtain ⟨A1, c1, rfl, t1⟩ := Texts.of_own HN.out hown; clear hown H1; obtain ⟨ad, x, rfl, hx, cx⟩ := texts_at t1 (k := n) (by omega); rw [HX.out] at hx; injection hx with hx; subst hx; have q0 : (0 : Int) ≤ (n : Int) := Int.natCast_nonneg _; have q1 : (n : Int) < (n : Int) + 1 := by omega)
    go_ret
    exact ⟨rfl, hg1⟩
end Go.Proofs.Ytanofmejokgijaa
