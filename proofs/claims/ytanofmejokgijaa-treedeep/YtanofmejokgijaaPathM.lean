/-
  Names, paths and how they stand, as functions of lists (of no program).
-/
namespace Go.Proofs.Ytanofmejokgijaa
set_option linter.unusedVariables false

/-- What stands between the bytes 47; s: what was gone through of the piece at hand. -/
def piecesGo : List UInt8 → List UInt8 → List (List UInt8)
  | [], s => [s]
  | c :: r, s => if c = 47 then s :: piecesGo r [] else piecesGo r (s ++ [c])
def piecesOf (p : List UInt8) : List (List UInt8) := if p = [] then [] else piecesGo p []
def nameB (s : List UInt8) : Bool := s.all (fun c => c != 0 && c != 47) && decide (0 < s.length) && decide (s.length < 25) && s != [46] && s != [46, 46]
def joinOf : List (List UInt8) → List UInt8
  | [] => []
  | x :: r => match r with
    | [] => x
    | _ :: _ => x ++ 47 :: joinOf r
def splitOf (p : List UInt8) : List (List UInt8) × Nat := if (piecesOf p).all nameB = true then (if 6 < (piecesOf p).length then ([], 3) else (piecesOf p, 0)) else ([], 2)

theorem piecesGo_ne (p s : List UInt8) : piecesGo p s ≠ [] := by
  induction p generalizing s with
  | nil => simp [piecesGo]
  | cons c r ih => unfold piecesGo; split <;> simp [ih]
theorem pieces_run {x : List UInt8} (h : (47 : UInt8) ∉ x) (r s : List UInt8) : piecesGo (x ++ r) s = piecesGo r (s ++ x) := by
  induction x generalizing s with
  | nil => simp
  | cons c x ih =>
    have hc : c ≠ 47 := fun e => h (by simp [e])
    have hx : (47 : UInt8) ∉ x := fun e => h (by simp [e])
    rw [List.cons_append, piecesGo, if_neg hc, ih hx]
    simp
theorem pieces_cut {x : List UInt8} (h : (47 : UInt8) ∉ x) (r s : List UInt8) : piecesGo (x ++ 47 :: r) s = (s ++ x) :: piecesGo r [] := by
  rw [pieces_run h, piecesGo, if_pos rfl]
theorem join_cons (x y : List UInt8) (r : List (List UInt8)) : joinOf (x :: y :: r) = x ++ 47 :: joinOf (y :: r) := rfl
theorem pieces_joinGo : ∀ (l : List (List UInt8)) (x s : List UInt8), (∀ y ∈ x :: l, (47 : UInt8) ∉ y) → piecesGo (joinOf (x :: l)) s = (s ++ x) :: l
  | [], x, s, h => by
    show piecesGo x s = _
    have := pieces_run (h x (by simp)) [] s
    rw [List.append_nil] at this
    rw [this, piecesGo]
  | y :: r, x, s, h => by
    rw [join_cons, pieces_cut (h x (by simp)), pieces_joinGo r y [] (fun z hz => h z (by simp at hz ⊢; exact .inr hz)), List.nil_append]
theorem join_nil {l : List (List UInt8)} (h : joinOf l = []) : l = [] ∨ l = [[]] := by
  match l with
  | [] => exact .inl rfl
  | [x] => exact .inr (by rw [show x = [] from h])
  | x :: y :: r => rw [join_cons] at h; simp at h
/-- What is joined of pieces is cut into them again. -/
theorem pieces_join {l : List (List UInt8)} (h : ∀ y ∈ l, (47 : UInt8) ∉ y) (hn : l ≠ [[]]) : piecesOf (joinOf l) = l := by
  match l with
  | [] => rfl
  | x :: r =>
    unfold piecesOf
    rw [if_neg (fun e => by rcases join_nil e with h1 | h1; cases h1; exact hn h1), pieces_joinGo r x [] h, List.nil_append]
theorem joinGo : ∀ (p s : List UInt8), joinOf (piecesGo p s) = s ++ p
  | [], s => by simp [piecesGo, joinOf]
  | c :: r, s => by
    unfold piecesGo
    split
    · rename_i hc
      subst hc
      have hne := piecesGo_ne r []
      have ih := joinGo r []
      match hq : piecesGo r [], hne with
      | y :: t, _ =>
        rw [hq] at ih
        rw [join_cons, ih]
        simp
    · rw [joinGo r (s ++ [c])]
      simp
/-- A text is what is joined of its pieces. -/
theorem join_pieces (p : List UInt8) : joinOf (piecesOf p) = p := by
  unfold piecesOf
  split
  · rename_i h; subst h; rfl
  · rw [joinGo, List.nil_append]
theorem pieces_inj {a b : List UInt8} (h : piecesOf a = piecesOf b) : a = b := by rw [← join_pieces a, h, join_pieces]
theorem pieces_free : ∀ (p s : List UInt8), (47 : UInt8) ∉ s → ∀ y ∈ piecesGo p s, (47 : UInt8) ∉ y
  | [], s, hs, y, hy => by simp [piecesGo] at hy; rw [hy]; exact hs
  | c :: r, s, hs, y, hy => by
    unfold piecesGo at hy
    split at hy
    · rcases List.mem_cons.1 hy with rfl | hy
      · exact hs
      · exact pieces_free r [] (by simp) y hy
    · rename_i hc
      exact pieces_free r (s ++ [c]) (by simp; exact ⟨hs, fun e => hc e.symm⟩) y hy
theorem name_free {s : List UInt8} (h : nameB s = true) : (47 : UInt8) ∉ s ∧ s ≠ [] := by
  unfold nameB at h
  simp only [Bool.and_eq_true, List.all_eq_true, decide_eq_true_eq, bne_iff_ne] at h
  obtain ⟨⟨⟨⟨h1, h2⟩, _⟩, _⟩, _⟩ := h
  exact ⟨fun e => (h1 47 e).2 rfl, by rintro rfl; simp at h2⟩
/-- What is joined of names is split into them again. -/
theorem split_join {l : List (List UInt8)} (h : ∀ s ∈ l, nameB s = true) (h6 : l.length ≤ 6) : splitOf (joinOf l) = (l, 0) := by
  have hp : piecesOf (joinOf l) = l := pieces_join (fun y hy => (name_free (h y hy)).1) (fun e => by subst e; exact (name_free (h [] (by simp))).2 rfl)
  unfold splitOf
  rw [hp, if_pos (List.all_eq_true.2 h), if_neg (by omega)]

/-- Bytes, one behind the other. -/
def cmpB : List UInt8 → List UInt8 → Int
  | [], [] => 0
  | [], _ :: _ => -1
  | _ :: _, [] => 1
  | a :: x, b :: y => if a.toNat < b.toNat then -1 else if b.toNat < a.toNat then 1 else cmpB x y
def cmpL : List (List UInt8) → List (List UInt8) → Int
  | [], [] => 0
  | [], _ :: _ => -1
  | _ :: _, [] => 1
  | a :: x, b :: y => if cmpB a b = 0 then cmpL x y else cmpB a b
def compareOf (a b : List UInt8) : Int := cmpL (piecesOf a) (piecesOf b)
def underOf (p d : List UInt8) : Bool := decide ((piecesOf d).length < (piecesOf p).length) && (piecesOf p).take (piecesOf d).length == piecesOf d
def parentOf (p : List UInt8) : List UInt8 := joinOf (piecesOf p).dropLast
def baseOf (p : List UInt8) : List UInt8 := (piecesOf p).getLastD []

theorem cmpB_val (x y : List UInt8) : cmpB x y = -1 ∨ cmpB x y = 0 ∨ cmpB x y = 1 := by
  induction x generalizing y with
  | nil => cases y <;> simp [cmpB]
  | cons a x ih =>
    cases y with
    | nil => simp [cmpB]
    | cons b y =>
      unfold cmpB
      split
      · simp
      · split
        · simp
        · exact ih y
theorem cmpB_anti (x y : List UInt8) : cmpB y x = - cmpB x y := by
  induction x generalizing y with
  | nil => cases y <;> simp [cmpB]
  | cons a x ih =>
    cases y with
    | nil => simp [cmpB]
    | cons b y =>
      unfold cmpB
      by_cases h1 : a.toNat < b.toNat
      · rw [if_neg (by omega), if_pos h1, if_pos h1]; rfl
      · by_cases h2 : b.toNat < a.toNat
        · rw [if_pos h2, if_neg h1, if_pos h2]
        · rw [if_neg h2, if_neg h1, if_neg h1, if_neg h2, ih]
theorem cmpB_eq (x y : List UInt8) : cmpB x y = 0 ↔ x = y := by
  induction x generalizing y with
  | nil => cases y <;> simp [cmpB]
  | cons a x ih =>
    cases y with
    | nil => simp [cmpB]
    | cons b y =>
      unfold cmpB
      by_cases h1 : a.toNat < b.toNat
      · rw [if_pos h1]
        exact ⟨fun h => by omega, fun h => by injection h with h _; subst h; omega⟩
      · by_cases h2 : b.toNat < a.toNat
        · rw [if_neg h1, if_pos h2]
          exact ⟨fun h => by omega, fun h => by injection h with h _; subst h; omega⟩
        · obtain rfl : a = b := UInt8.toNat_inj.1 (by omega)
          rw [if_neg h1, if_neg h2, ih]
          simp
theorem cmpB_trans (x y z : List UInt8) (h1 : cmpB x y ≤ 0) (h2 : cmpB y z ≤ 0) : cmpB x z ≤ 0 := by
  induction x generalizing y z with
  | nil => cases z <;> simp [cmpB]
  | cons a x ih =>
    match y, z, h1, h2 with
    | [], _, h1, _ => simp [cmpB] at h1
    | b :: y, [], _, h2 => simp [cmpB] at h2
    | b :: y, c :: z, h1, h2 =>
      unfold cmpB at h1 h2 ⊢
      split at h1
      · split at h2
        · rw [if_pos (by omega)]; omega
        · split at h2
          · omega
          · rw [if_pos (by omega)]; omega
      · split at h1
        · omega
        · split at h2
          · rw [if_pos (by omega)]; omega
          · split at h2
            · omega
            · rw [if_neg (by omega), if_neg (by omega)]
              exact ih y z h1 h2
theorem cmpL_val (x y : List (List UInt8)) : cmpL x y = -1 ∨ cmpL x y = 0 ∨ cmpL x y = 1 := by
  induction x generalizing y with
  | nil => cases y <;> simp [cmpL]
  | cons a x ih =>
    cases y with
    | nil => simp [cmpL]
    | cons b y =>
      unfold cmpL
      split
      · exact ih y
      · exact cmpB_val a b
theorem cmpL_anti (x y : List (List UInt8)) : cmpL y x = - cmpL x y := by
  induction x generalizing y with
  | nil => cases y <;> simp [cmpL]
  | cons a x ih =>
    cases y with
    | nil => simp [cmpL]
    | cons b y =>
      unfold cmpL
      have := cmpB_anti a b
      by_cases h : cmpB a b = 0
      · rw [if_pos (by omega), if_pos h, ih]
      · rw [if_neg (by omega), if_neg h, this]
theorem cmpL_eq (x y : List (List UInt8)) : cmpL x y = 0 ↔ x = y := by
  induction x generalizing y with
  | nil => cases y <;> simp [cmpL]
  | cons a x ih =>
    cases y with
    | nil => simp [cmpL]
    | cons b y =>
      unfold cmpL
      by_cases h : cmpB a b = 0
      · rw [if_pos h, ih, (cmpB_eq a b).1 h]; simp
      · rw [if_neg h]
        exact ⟨fun e => absurd e h, fun e => by injection e with e _; exact absurd ((cmpB_eq a b).2 e) h⟩
theorem cmpL_trans (x y z : List (List UInt8)) (h1 : cmpL x y ≤ 0) (h2 : cmpL y z ≤ 0) : cmpL x z ≤ 0 := by
  induction x generalizing y z with
  | nil => cases z <;> simp [cmpL]
  | cons a x ih =>
    match y, z, h1, h2 with
    | [], _, h1, _ => simp [cmpL] at h1
    | b :: y, [], _, h2 => simp [cmpL] at h2
    | b :: y, c :: z, h1, h2 =>
      unfold cmpL at h1 h2 ⊢
      have t := cmpB_trans a b c
      by_cases e1 : cmpB a b = 0
      · obtain rfl := (cmpB_eq a b).1 e1
        rw [if_pos e1] at h1
        by_cases e2 : cmpB a c = 0
        · rw [if_pos e2] at h2 ⊢; exact ih y z h1 h2
        · rw [if_neg e2] at h2 ⊢; exact h2
      · rw [if_neg e1] at h1
        by_cases e2 : cmpB b c = 0
        · obtain rfl := (cmpB_eq b c).1 e2
          rw [if_neg e1]; exact h1
        · rw [if_neg e2] at h2
          have h3 := t h1 h2
          by_cases e3 : cmpB a c = 0
          · obtain rfl := (cmpB_eq a c).1 e3
            have := cmpB_anti a b
            omega
          · rw [if_neg e3]; exact h3
theorem compare_eq (a b : List UInt8) : compareOf a b = 0 ↔ a = b := ⟨fun h => pieces_inj ((cmpL_eq _ _).1 h), fun h => by subst h; exact (cmpL_eq _ _).2 rfl⟩
theorem compare_anti (a b : List UInt8) : compareOf b a = - compareOf a b := cmpL_anti _ _
theorem compare_trans (a b c : List UInt8) (h1 : compareOf a b ≤ 0) (h2 : compareOf b c ≤ 0) : compareOf a c ≤ 0 := cmpL_trans _ _ _ h1 h2
theorem cmpL_prefix : ∀ (x y : List (List UInt8)), y ≠ [] → cmpL x (x ++ y) = -1
  | [], y, h => by cases y with
    | nil => exact absurd rfl h
    | cons b y => rfl
  | a :: x, y, h => by rw [List.cons_append, cmpL, if_pos ((cmpB_eq a a).2 rfl), cmpL_prefix x y h]
theorem pieces_names {N : List (List UInt8)} (h : ∀ x ∈ N, nameB x = true) : piecesOf (joinOf N) = N :=
  pieces_join (fun y hy => (name_free (h y hy)).1) (fun e => by subst e; exact (name_free (h [] (by simp))).2 rfl)
theorem join_ne {N : List (List UInt8)} (h : ∀ x ∈ N, nameB x = true) (h0 : N ≠ []) : joinOf N ≠ [] := fun e => by
  rcases join_nil e with q | q
  · exact h0 q
  · subst q; exact (name_free (h [] (by simp))).2 rfl
end Go.Proofs.Ytanofmejokgijaa
