/-
  Contracts, joined (PathM DkM DkN PaA Rec Tur Fil PaB StrA StrB).
-/
import Derived.Test.YtbcldknecdbemaaGreatDoorRows
import Derived.Test.YtbcldknecdbemaaGreatDoorQ2
import Derived.Laws.RangeAny
import Derived.Lib.OthersKept
import Derived.WalkSmall
import Derived.WalkLawsBesides
import Derived.Outline
import Derived.Lib.Hide
import Derived.Test.YtbcldknecdbemaaGreatDoorQ1
import Derived.MapKept
import Derived.Maps.RangeRun
import Derived.Lib.Bytealg
import Derived.Laws.Externs
import Derived.Shelf.Strconv.Clone
import Derived.Shelf.SlMaps.Clone
import Derived.Shelf.Sort.Plain
import Derived.Sort.OwnSorted
import Derived.Test.YtbcldknecdbemaaGreatDoorQ10

/-
  Names, paths and how they stand, as functions of lists (of no program).
-/
namespace Go.Proofs.YtbcldknecdbemaaGreatDoor
set_option linter.unusedVariables false
set_option maxRecDepth 20000

/-- What stands between the bytes 47; s: what was gone through of the piece at hand. -/
def piecesGo : List UInt8 → List UInt8 → List (List UInt8)
  | [], s => [s]
  | c :: r, s => if c = 47 then s :: piecesGo r [] else piecesGo r (s ++ [c])
def piecesOf (p : List UInt8) : List (List UInt8) := if p = [] then [] else piecesGo p []
def nameB (s : List UInt8) : Bool := s.all (fun c => c != 0 && c != 47) && decide (0 < s.length) && decide (s.length < 25) && s != [46] && s != [46, 46]
def joinOf : List (List UInt8) → List UInt8
  | [] => []
  | x :: r => match r with
    | [] => x
    | _ :: _ => x ++ 47 :: joinOf r
def splitOf (p : List UInt8) : List (List UInt8) × Nat := if (piecesOf p).all nameB = true then (if 6 < (piecesOf p).length then ([], 3) else (piecesOf p, 0)) else ([], 2)

theorem piecesGo_ne (p s : List UInt8) : piecesGo p s ≠ [] := by
  induction p generalizing s with
  | nil => simp [piecesGo]
  | cons c r ih => unfold piecesGo; split <;> simp [ih]
theorem pieces_run {x : List UInt8} (h : (47 : UInt8) ∉ x) (r s : List UInt8) : piecesGo (x ++ r) s = piecesGo r (s ++ x) := by
  induction x generalizing s with
  | nil => simp
  | cons c x ih =>
    have hc : c ≠ 47 := fun e => h (by simp [e])
    have hx : (47 : UInt8) ∉ x := fun e => h (by simp [e])
    rw [List.cons_append, piecesGo, if_neg hc, ih hx]
    simp
theorem pieces_cut {x : List UInt8} (h : (47 : UInt8) ∉ x) (r s : List UInt8) : piecesGo (x ++ 47 :: r) s = (s ++ x) :: piecesGo r [] := by
  rw [pieces_run h, piecesGo, if_pos rfl]
theorem join_cons (x y : List UInt8) (r : List (List UInt8)) : joinOf (x :: y :: r) = x ++ 47 :: joinOf (y :: r) := rfl
theorem pieces_joinGo : ∀ (l : List (List UInt8)) (x s : List UInt8), (∀ y ∈ x :: l, (47 : UInt8) ∉ y) → piecesGo (joinOf (x :: l)) s = (s ++ x) :: l
  | [], x, s, h => by
    show piecesGo x s = _
    have := pieces_run (h x (by simp)) [] s
    rw [List.append_nil] at this
    rw [this, piecesGo]
  | y :: r, x, s, h => by
    rw [join_cons, pieces_cut (h x (by simp)), pieces_joinGo r y [] (fun z hz => h z (by simp at hz ⊢; exact .inr hz)), List.nil_append]
theorem join_nil {l : List (List UInt8)} (h : joinOf l = []) : l = [] ∨ l = [[]] := by
  match l with
  | [] => exact .inl rfl
  | [x] => exact .inr (by rw [show x = [] from h])
  | x :: y :: r => rw [join_cons] at h; simp at h
/-- What is joined of pieces is cut into them again. -/
theorem pieces_join {l : List (List UInt8)} (h : ∀ y ∈ l, (47 : UInt8) ∉ y) (hn : l ≠ [[]]) : piecesOf (joinOf l) = l := by
  match l with
  | [] => rfl
  | x :: r =>
    unfold piecesOf
    rw [if_neg (fun e => by rcases join_nil e with h1 | h1; cases h1; exact hn h1), pieces_joinGo r x [] h, List.nil_append]
theorem joinGo : ∀ (p s : List UInt8), joinOf (piecesGo p s) = s ++ p
  | [], s => by simp [piecesGo, joinOf]
  | c :: r, s => by
    unfold piecesGo
    split
    · rename_i hc
      subst hc
      have hne := piecesGo_ne r []
      have ih := joinGo r []
      match hq : piecesGo r [], hne with
      | y :: t, _ =>
        rw [hq] at ih
        rw [join_cons, ih]
        simp
    · rw [joinGo r (s ++ [c])]
      simp
/-- A text is what is joined of its pieces. -/
theorem join_pieces (p : List UInt8) : joinOf (piecesOf p) = p := by
  unfold piecesOf
  split
  · rename_i h; subst h; rfl
  · rw [joinGo, List.nil_append]
theorem pieces_inj {a b : List UInt8} (h : piecesOf a = piecesOf b) : a = b := by rw [← join_pieces a, h, join_pieces]
theorem pieces_free : ∀ (p s : List UInt8), (47 : UInt8) ∉ s → ∀ y ∈ piecesGo p s, (47 : UInt8) ∉ y
  | [], s, hs, y, hy => by simp [piecesGo] at hy; rw [hy]; exact hs
  | c :: r, s, hs, y, hy => by
    unfold piecesGo at hy
    split at hy
    · rcases List.mem_cons.1 hy with rfl | hy
      · exact hs
      · exact pieces_free r [] (by simp) y hy
    · rename_i hc
      exact pieces_free r (s ++ [c]) (by simp; exact ⟨hs, fun e => hc e.symm⟩) y hy
theorem name_free {s : List UInt8} (h : nameB s = true) : (47 : UInt8) ∉ s ∧ s ≠ [] := by
  unfold nameB at h
  simp only [Bool.and_eq_true, List.all_eq_true, decide_eq_true_eq, bne_iff_ne] at h
  obtain ⟨⟨⟨⟨h1, h2⟩, _⟩, _⟩, _⟩ := h
  exact ⟨fun e => (h1 47 e).2 rfl, by rintro rfl; simp at h2⟩
/-- What is joined of names is split into them again. -/
theorem split_join {l : List (List UInt8)} (h : ∀ s ∈ l, nameB s = true) (h6 : l.length ≤ 6) : splitOf (joinOf l) = (l, 0) := by
  have hp : piecesOf (joinOf l) = l := pieces_join (fun y hy => (name_free (h y hy)).1) (fun e => by subst e; exact (name_free (h [] (by simp))).2 rfl)
  unfold splitOf
  rw [hp, if_pos (List.all_eq_true.2 h), if_neg (by omega)]

/-- Bytes, one behind the other. -/
def cmpB : List UInt8 → List UInt8 → Int
  | [], [] => 0
  | [], _ :: _ => -1
  | _ :: _, [] => 1
  | a :: x, b :: y => if a.toNat < b.toNat then -1 else if b.toNat < a.toNat then 1 else cmpB x y
def cmpL : List (List UInt8) → List (List UInt8) → Int
  | [], [] => 0
  | [], _ :: _ => -1
  | _ :: _, [] => 1
  | a :: x, b :: y => if cmpB a b = 0 then cmpL x y else cmpB a b
def compareOf (a b : List UInt8) : Int := cmpL (piecesOf a) (piecesOf b)
def underOf (p d : List UInt8) : Bool := decide ((piecesOf d).length < (piecesOf p).length) && (piecesOf p).take (piecesOf d).length == piecesOf d
def parentOf (p : List UInt8) : List UInt8 := joinOf (piecesOf p).dropLast
def baseOf (p : List UInt8) : List UInt8 := (piecesOf p).getLastD []

theorem cmpB_val (x y : List UInt8) : cmpB x y = -1 ∨ cmpB x y = 0 ∨ cmpB x y = 1 := by
  induction x generalizing y with
  | nil => cases y <;> simp [cmpB]
  | cons a x ih =>
    cases y with
    | nil => simp [cmpB]
    | cons b y =>
      unfold cmpB
      split
      · simp
      · split
        · simp
        · exact ih y
theorem cmpB_anti (x y : List UInt8) : cmpB y x = - cmpB x y := by
  induction x generalizing y with
  | nil => cases y <;> simp [cmpB]
  | cons a x ih =>
    cases y with
    | nil => simp [cmpB]
    | cons b y =>
      unfold cmpB
      by_cases h1 : a.toNat < b.toNat
      · rw [if_neg (by omega), if_pos h1, if_pos h1]; rfl
      · by_cases h2 : b.toNat < a.toNat
        · rw [if_pos h2, if_neg h1, if_pos h2]
        · rw [if_neg h2, if_neg h1, if_neg h1, if_neg h2, ih]
theorem cmpB_eq (x y : List UInt8) : cmpB x y = 0 ↔ x = y := by
  induction x generalizing y with
  | nil => cases y <;> simp [cmpB]
  | cons a x ih =>
    cases y with
    | nil => simp [cmpB]
    | cons b y =>
      unfold cmpB
      by_cases h1 : a.toNat < b.toNat
      · rw [if_pos h1]
        exact ⟨fun h => by omega, fun h => by injection h with h _; subst h; omega⟩
      · by_cases h2 : b.toNat < a.toNat
        · rw [if_neg h1, if_pos h2]
          exact ⟨fun h => by omega, fun h => by injection h with h _; subst h; omega⟩
        · obtain rfl : a = b := UInt8.toNat_inj.1 (by omega)
          rw [if_neg h1, if_neg h2, ih]
          simp
theorem cmpB_trans (x y z : List UInt8) (h1 : cmpB x y ≤ 0) (h2 : cmpB y z ≤ 0) : cmpB x z ≤ 0 := by
  induction x generalizing y z with
  | nil => cases z <;> simp [cmpB]
  | cons a x ih =>
    match y, z, h1, h2 with
    | [], _, h1, _ => simp [cmpB] at h1
    | b :: y, [], _, h2 => simp [cmpB] at h2
    | b :: y, c :: z, h1, h2 =>
      unfold cmpB at h1 h2 ⊢
      split at h1
      · split at h2
        · rw [if_pos (by omega)]; omega
        · split at h2
          · omega
          · rw [if_pos (by omega)]; omega
      · split at h1
        · omega
        · split at h2
          · rw [if_pos (by omega)]; omega
          · split at h2
            · omega
            · rw [if_neg (by omega), if_neg (by omega)]
              exact ih y z h1 h2
theorem cmpL_val (x y : List (List UInt8)) : cmpL x y = -1 ∨ cmpL x y = 0 ∨ cmpL x y = 1 := by
  induction x generalizing y with
  | nil => cases y <;> simp [cmpL]
  | cons a x ih =>
    cases y with
    | nil => simp [cmpL]
    | cons b y =>
      unfold cmpL
      split
      · exact ih y
      · exact cmpB_val a b
theorem cmpL_anti (x y : List (List UInt8)) : cmpL y x = - cmpL x y := by
  induction x generalizing y with
  | nil => cases y <;> simp [cmpL]
  | cons a x ih =>
    cases y with
    | nil => simp [cmpL]
    | cons b y =>
      unfold cmpL
      have := cmpB_anti a b
      by_cases h : cmpB a b = 0
      · rw [if_pos (by omega), if_pos h, ih]
      · rw [if_neg (by omega), if_neg h, this]
theorem cmpL_eq (x y : List (List UInt8)) : cmpL x y = 0 ↔ x = y := by
  induction x generalizing y with
  | nil => cases y <;> simp [cmpL]
  | cons a x ih =>
    cases y with
    | nil => simp [cmpL]
    | cons b y =>
      unfold cmpL
      by_cases h : cmpB a b = 0
      · rw [if_pos h, ih, (cmpB_eq a b).1 h]; simp
      · rw [if_neg h]
        exact ⟨fun e => absurd e h, fun e => by injection e with e _; exact absurd ((cmpB_eq a b).2 e) h⟩
theorem cmpL_trans (x y z : List (List UInt8)) (h1 : cmpL x y ≤ 0) (h2 : cmpL y z ≤ 0) : cmpL x z ≤ 0 := by
  induction x generalizing y z with
  | nil => cases z <;> simp [cmpL]
  | cons a x ih =>
    match y, z, h1, h2 with
    | [], _, h1, _ => simp [cmpL] at h1
    | b :: y, [], _, h2 => simp [cmpL] at h2
    | b :: y, c :: z, h1, h2 =>
      unfold cmpL at h1 h2 ⊢
      have t := cmpB_trans a b c
      by_cases e1 : cmpB a b = 0
      · obtain rfl := (cmpB_eq a b).1 e1
        rw [if_pos e1] at h1
        by_cases e2 : cmpB a c = 0
        · rw [if_pos e2] at h2 ⊢; exact ih y z h1 h2
        · rw [if_neg e2] at h2 ⊢; exact h2
      · rw [if_neg e1] at h1
        by_cases e2 : cmpB b c = 0
        · obtain rfl := (cmpB_eq b c).1 e2
          rw [if_neg e1]; exact h1
        · rw [if_neg e2] at h2
          have h3 := t h1 h2
          by_cases e3 : cmpB a c = 0
          · obtain rfl := (cmpB_eq a c).1 e3
            have := cmpB_anti a b
            omega
          · rw [if_neg e3]; exact h3
theorem compare_eq (a b : List UInt8) : compareOf a b = 0 ↔ a = b := ⟨fun h => pieces_inj ((cmpL_eq _ _).1 h), fun h => by subst h; exact (cmpL_eq _ _).2 rfl⟩
theorem compare_anti (a b : List UInt8) : compareOf b a = - compareOf a b := cmpL_anti _ _
theorem compare_trans (a b c : List UInt8) (h1 : compareOf a b ≤ 0) (h2 : compareOf b c ≤ 0) : compareOf a c ≤ 0 := cmpL_trans _ _ _ h1 h2
theorem cmpL_prefix : ∀ (x y : List (List UInt8)), y ≠ [] → cmpL x (x ++ y) = -1
  | [], y, h => by cases y with
    | nil => exact absurd rfl h
    | cons b y => rfl
  | a :: x, y, h => by rw [List.cons_append, cmpL, if_pos ((cmpB_eq a a).2 rfl), cmpL_prefix x y h]
theorem pieces_names {N : List (List UInt8)} (h : ∀ x ∈ N, nameB x = true) : piecesOf (joinOf N) = N :=
  pieces_join (fun y hy => (name_free (h y hy)).1) (fun e => by subst e; exact (name_free (h [] (by simp))).2 rfl)
theorem join_ne {N : List (List UInt8)} (h : ∀ x ∈ N, nameB x = true) (h0 : N ≠ []) : joinOf N ≠ [] := fun e => by
  rcases join_nil e with q | q
  · exact h0 q
  · subst q; exact (name_free (h [] (by simp))).2 rfl
end Go.Proofs.YtbcldknecdbemaaGreatDoor

/-
  Disks, as mathematics (of no program): files by their names, what is written, renamed, removed, and what a restart leaves.
-/
namespace Go.Proofs.YtbcldknecdbemaaGreatDoor
set_option linter.unusedVariables false
set_option maxRecDepth 20000

abbrev Byts := List UInt8
/-- Files: names and bytes. -/
abbrev Fls := List (Byts × Byts)
def fGet (S : Fls) (p : Byts) : Option Byts := (S.find? (fun x => x.1 == p)).map (·.2)
def fDel (S : Fls) (p : Byts) : Fls := S.filter (fun x => !(x.1 == p))
def fPut : Fls → Byts → Byts → Fls
  | [], p, b => [(p, b)]
  | x :: r, p, b => if cmpB x.1 p = -1 then x :: fPut r p b else (p, b) :: fDel (x :: r) p
def fUsed (S : Fls) : Nat := (S.map (fun x => x.2.length)).sum
/-- By their names, each once. -/
def Srt (S : Fls) : Prop := S.Pairwise (fun x y => cmpB x.1 y.1 = -1)

theorem cmpB_lt_ne {x y : Byts} (h : cmpB x y = -1) : x ≠ y := fun e => by
  rw [(cmpB_eq x y).2 e] at h; omega
theorem cmpB_lt_trans {x y z : Byts} (h1 : cmpB x y = -1) (h2 : cmpB y z = -1) : cmpB x z = -1 := by
  have h := cmpB_trans x y z (by omega) (by omega)
  have hv := cmpB_val x z
  have hne : cmpB x z ≠ 0 := fun e => by
    obtain rfl := (cmpB_eq x z).1 e
    have := cmpB_anti x y
    omega
  omega
theorem cmpB_not_lt {x p : Byts} (h : ¬ cmpB x p = -1) (hne : x ≠ p) : cmpB p x = -1 := by
  have hv := cmpB_val x p
  have h0 : cmpB x p ≠ 0 := fun e => hne ((cmpB_eq x p).1 e)
  have := cmpB_anti x p
  omega

section
variable {S : Fls} {p q b : Byts}
theorem fDel_cons (x : Byts × Byts) (r : Fls) (p : Byts) : fDel (x :: r) p = if x.1 = p then fDel r p else x :: fDel r p := by
  by_cases h : x.1 = p
  · simp [fDel, h]
  · simp [fDel, h]
theorem fGet_cons (x : Byts × Byts) (r : Fls) (p : Byts) : fGet (x :: r) p = if x.1 = p then some x.2 else fGet r p := by
  by_cases h : x.1 = p
  · simp [fGet, h]
  · simp [fGet, h]
theorem fGet_none : fGet S p = none ↔ p ∉ S.map (·.1) := by
  induction S with
  | nil => simp [fGet]
  | cons x r ih =>
    rw [fGet_cons, List.map_cons, List.mem_cons]
    by_cases h : x.1 = p
    · simp [h]
    · rw [if_neg h, ih]
      simp [show ¬ p = x.1 from fun e => h e.symm]
theorem fDel_none (h : fGet S p = none) : fDel S p = S := by
  rw [fGet_none] at h
  refine List.filter_eq_self.2 fun x hx => ?_
  have : x.1 ≠ p := fun e => h (e ▸ List.mem_map_of_mem hx)
  simpa using this
theorem fDel_sub (S : Fls) (p : Byts) : (fDel S p).Sublist S := List.filter_sublist
theorem fDel_not (S : Fls) (p : Byts) : p ∉ (fDel S p).map (·.1) := fun h => by
  obtain ⟨x, hx, e⟩ := List.mem_map.1 h
  have := (List.mem_filter.1 hx).2
  simp [e] at this
theorem fPut_perm : ∀ (S : Fls), (fPut S p b).Perm ((p, b) :: fDel S p)
  | [] => List.Perm.refl _
  | x :: r => by
    unfold fPut
    by_cases h : cmpB x.1 p = -1
    · rw [if_pos h, fDel_cons, if_neg (cmpB_lt_ne h)]
      exact ((fPut_perm r).cons x).trans (List.Perm.swap _ _ _)
    · rw [if_neg h]
theorem Srt.sub {S' : Fls} (h : Srt S) (hs : S'.Sublist S) : Srt S' := List.Pairwise.sublist hs h
theorem Srt.del (h : Srt S) (p : Byts) : Srt (fDel S p) := h.sub (fDel_sub S p)
theorem Srt.put : ∀ {S : Fls}, Srt S → ∀ (p b : Byts), Srt (fPut S p b)
  | [], _, p, b => by simp [fPut, Srt]
  | x :: r, h, p, b => by
    obtain ⟨h1, h2⟩ := List.pairwise_cons.1 h
    unfold fPut
    by_cases hx : cmpB x.1 p = -1
    · rw [if_pos hx]
      refine List.pairwise_cons.2 ⟨fun y hy => ?_, Srt.put h2 p b⟩
      rcases List.mem_cons.1 ((fPut_perm r).mem_iff.1 hy) with rfl | hy
      · exact hx
      · exact h1 y ((fDel_sub r p).mem hy)
    · rw [if_neg hx]
      refine List.pairwise_cons.2 ⟨fun y hy => ?_, h.del p⟩
      have hyp : y.1 ≠ p := fun e => fDel_not (x :: r) p (by rw [← e]; exact List.mem_map.2 ⟨y, by rw [e]; exact hy, rfl⟩)
      rcases List.mem_cons.1 ((fDel_sub _ p).mem hy) with rfl | hy'
      · exact cmpB_not_lt hx hyp
      · by_cases e : x.1 = p
        · rw [← e]; exact h1 y hy'
        · exact cmpB_lt_trans (cmpB_not_lt hx e) (h1 y hy')
theorem Srt.nodup (h : Srt S) : (S.map (·.1)).Nodup := by
  rw [List.Nodup, List.pairwise_map]
  exact h.imp fun h => cmpB_lt_ne h
theorem Srt.nil : Srt [] := List.Pairwise.nil
theorem get_perm : ∀ {S S' : Fls}, S.Perm S' → (S.map (·.1)).Nodup → fGet S p = fGet S' p := by
  intro S S' h
  induction h with
  | nil => intro _; rfl
  | cons x h ih => intro hn; rw [fGet_cons, fGet_cons, ih (List.nodup_cons.1 hn).2]
  | swap x y l =>
    intro hn
    simp only [List.map_cons, List.nodup_cons, List.mem_cons, not_or] at hn
    rw [fGet_cons, fGet_cons, fGet_cons, fGet_cons]
    by_cases h1 : y.1 = p
    · have h2 : ¬ x.1 = p := fun e => hn.1.1 (by rw [h1, e])
      simp [h1, h2]
    · simp [h1]
  | trans h1 h2 ih1 ih2 => intro hn; rw [ih1 hn, ih2 ((h1.map _).nodup_iff.1 hn)]
theorem get_del_same (S : Fls) (p : Byts) : fGet (fDel S p) p = none := fGet_none.2 (fDel_not S p)
theorem get_del_other : ∀ (S : Fls) {p q : Byts}, q ≠ p → fGet (fDel S p) q = fGet S q
  | [], _, _, _ => rfl
  | x :: r, p, q, h => by
    rw [fDel_cons]
    by_cases hx : x.1 = p
    · rw [if_pos hx, get_del_other r h, fGet_cons, if_neg (fun e => h (e.symm.trans hx))]
    · rw [if_neg hx, fGet_cons, fGet_cons, get_del_other r h]
theorem put_nodup (h : (S.map (·.1)).Nodup) (p b : Byts) : ((fPut S p b).map (·.1)).Nodup := by
  rw [((fPut_perm S).map _).nodup_iff, List.map_cons, List.nodup_cons]
  exact ⟨fDel_not S p, h.sublist ((fDel_sub S p).map _)⟩
theorem get_put (h : (S.map (·.1)).Nodup) (p b q : Byts) : fGet (fPut S p b) q = if q = p then some b else fGet S q := by
  rw [get_perm (fPut_perm S) (put_nodup h p b), fGet_cons]
  by_cases e : q = p
  · subst e; simp
  · rw [if_neg (fun e1 => e e1.symm), if_neg e, get_del_other S e]
theorem used_perm {S S' : Fls} (h : S.Perm S') : fUsed S = fUsed S' := (h.map _).sum_nat
theorem used_del : ∀ {S : Fls}, (S.map (·.1)).Nodup → ∀ p, fUsed S = fUsed (fDel S p) + ((fGet S p).getD []).length
  | [], _, _ => rfl
  | x :: r, h, p => by
    have h2 := List.nodup_cons.1 h
    rw [fDel_cons, fGet_cons]
    by_cases hx : x.1 = p
    · have : fDel r p = r := fDel_none (fGet_none.2 (hx ▸ h2.1))
      rw [if_pos hx, if_pos hx, this]
      simp [fUsed]; omega
    · rw [if_neg hx, if_neg hx]
      have := used_del h2.2 p
      simp [fUsed] at this ⊢
      omega
theorem used_put (h : (S.map (·.1)).Nodup) (p b : Byts) : fUsed (fPut S p b) = fUsed (fDel S p) + b.length := by
  rw [used_perm (fPut_perm S)]
  simp [fUsed]; omega
/-- Two lists that rise and have the same members are one. -/
theorem srt_perm {S S' : Fls} (h : Srt S) (h' : Srt S') (hp : S.Perm S') : S = S' := by
  refine List.Perm.eq_of_pairwise (le := fun (x y : Byts × Byts) => cmpB x.1 y.1 = -1) (fun a b _ _ h1 h2 => ?_) h h' hp
  have := cmpB_anti a.1 b.1
  omega
end

/-- Changes. -/
inductive Chg where
  | wr (p b : Byts)
  | rn (p q : Byts)
  | rm (p : Byts)
def mkF (S : Fls) : Chg → Fls
  | .wr p b => fPut S p b
  | .rn p q => match fGet S p with
    | none => S
    | some b => fPut (fDel S p) q b
  | .rm p => fDel S p
def halfB (b : Byts) : Byts := b.take (b.length / 2)
/-- What a restart leaves. -/
def rstF : List Chg → List Bool → Fls → Fls
  | [], _, S => S
  | c :: r, ks, S => if ks.headD false = true then
      match c with
      | .wr p b => rstF r ks.tail.tail (fPut S p (if ks.tail.headD false = true then b else halfB b))
      | .rn p q => rstF r ks.tail (mkF S (.rn p q))
      | .rm p => rstF r ks.tail (mkF S (.rm p))
    else rstF r ks.tail S
theorem Srt.mk {S : Fls} (h : Srt S) (c : Chg) : Srt (mkF S c) := by
  cases c with
  | wr p b => exact h.put p b
  | rn p q =>
    show Srt (match fGet S p with | none => S | some b => fPut (fDel S p) q b)
    split
    · exact h
    · exact (h.del p).put q _
  | rm p => exact h.del p
theorem Srt.mks {S : Fls} (h : Srt S) : ∀ (l : List Chg), Srt (l.foldl mkF S) := fun l => by
  induction l generalizing S with
  | nil => exact h
  | cons c r ih => exact ih (h.mk c)
theorem Srt.rst {S : Fls} (h : Srt S) : ∀ (l : List Chg) (ks : List Bool), Srt (rstF l ks S) := fun l => by
  induction l generalizing S with
  | nil => intro ks; exact h
  | cons c r ih =>
    intro ks
    unfold rstF
    split
    · cases c with
      | wr p b => exact ih (h.put _ _) _
      | rn p q => exact ih (h.mk _) _
      | rm p => exact ih (h.mk _) _
    · exact ih h _

/-- A disk. -/
structure Dk where
  room : Int
  seen : Fls
  lasts : Fls
  waits : List Chg
  power : Int
def Dk.do_ (D : Dk) (c : Chg) : Dk := { D with seen := mkF D.seen c, waits := D.waits ++ [c], power := if 0 < D.power then D.power - 1 else D.power }
def Dk.spent (D : Dk) : Dk := { D with power := if 0 < D.power then D.power - 1 else D.power }
def namedB (p : Byts) : Bool := decide (0 < p.length) && decide (p.length < 97) && p.all (fun c => c != 0)
def writeD (D : Dk) (p b : Byts) : Dk × Int :=
  if namedB p = false then (D, 1) else if D.power = 0 then (D, 6) else
  if D.room < ((fUsed D.seen : Nat) : Int) - (((fGet D.seen p).getD []).length : Int) + (b.length : Int) then (D, 5) else (D.do_ (.wr p b), 0)
def readD (D : Dk) (p : Byts) : Byts × Int :=
  if D.power = 0 then ([], 6) else match fGet D.seen p with
  | none => ([], 4)
  | some b => (b, 0)
def renameD (D : Dk) (p q : Byts) : Dk × Int :=
  if namedB q = false then (D, 1) else if D.power = 0 then (D, 6) else if fGet D.seen p = none then (D, 4) else (D.do_ (.rn p q), 0)
def removeD (D : Dk) (p : Byts) : Dk × Int :=
  if D.power = 0 then (D, 6) else if fGet D.seen p = none then (D, 4) else (D.do_ (.rm p), 0)
def syncD (D : Dk) : Dk × Int := if D.power = 0 then (D, 6) else ({ D.spent with lasts := D.seen, waits := [] }, 0)
def restartD (D : Dk) (ks : List Bool) : Dk := { D with seen := rstF D.waits ks D.lasts, lasts := rstF D.waits ks D.lasts, waits := [], power := -1 }
def newD (room : Int) : Dk := ⟨room, [], [], [], -1⟩
/-- What is seen is what lasts with what waits. -/
structure Dk.Ok (D : Dk) : Prop where
  lasts : Srt D.lasts
  seen : D.seen = D.waits.foldl mkF D.lasts
theorem Dk.Ok.srt {D : Dk} (h : D.Ok) : Srt D.seen := by rw [h.seen]; exact h.lasts.mks _
theorem Dk.Ok.do_ {D : Dk} (h : D.Ok) (c : Chg) : (D.do_ c).Ok := ⟨h.lasts, by
  show mkF D.seen c = (D.waits ++ [c]).foldl mkF D.lasts
  rw [List.foldl_append, ← h.seen]; rfl⟩
theorem Dk.Ok.spent {D : Dk} (h : D.Ok) : D.spent.Ok := ⟨h.lasts, h.seen⟩
theorem Dk.Ok.sync {D : Dk} (h : D.Ok) : (syncD D).1.Ok := by
  unfold syncD
  split
  · exact h
  · exact ⟨h.srt, rfl⟩
theorem Dk.Ok.restart {D : Dk} (h : D.Ok) (ks : List Bool) : (restartD D ks).Ok := ⟨h.lasts.rst _ _, rfl⟩
theorem Dk.Ok.new (room : Int) : (newD room).Ok := ⟨Srt.nil, rfl⟩
theorem Dk.Ok.write {D : Dk} (h : D.Ok) (p b : Byts) : (writeD D p b).1.Ok := by
  unfold writeD
  split
  · exact h
  · split
    · exact h
    · split
      · exact h
      · exact h.do_ _
theorem Dk.Ok.rename {D : Dk} (h : D.Ok) (p q : Byts) : (renameD D p q).1.Ok := by
  unfold renameD
  split
  · exact h
  · split
    · exact h
    · split
      · exact h
      · exact h.do_ _
theorem Dk.Ok.remove {D : Dk} (h : D.Ok) (p : Byts) : (removeD D p).1.Ok := by
  unfold removeD
  split
  · exact h
  · split
    · exact h
    · exact h.do_ _
end Go.Proofs.YtbcldknecdbemaaGreatDoor

/-
  Disks, as mathematics (of no program): how many bytes there are at most.
-/
namespace Go.Proofs.YtbcldknecdbemaaGreatDoor
set_option linter.unusedVariables false
set_option maxRecDepth 20000

def Chg.data : Chg → Nat
  | .wr _ b => b.length
  | _ => 0
def dataSum (l : List Chg) : Nat := (l.map Chg.data).sum
theorem used_sub {S S' : Fls} (h : S'.Sublist S) : fUsed S' ≤ fUsed S := by
  unfold fUsed
  induction h with
  | slnil => exact Nat.le_refl _
  | cons x _ ih => simp; omega
  | cons_cons x _ ih => simp; omega
theorem used_mk {S : Fls} (h : Srt S) (c : Chg) : fUsed (mkF S c) ≤ fUsed S + c.data := by
  cases c with
  | wr p b =>
    show fUsed (fPut S p b) ≤ fUsed S + b.length
    rw [used_put h.nodup]
    have := used_sub (fDel_sub S p)
    omega
  | rn p q =>
    show fUsed (match fGet S p with | none => S | some b => fPut (fDel S p) q b) ≤ fUsed S + 0
    have h1 := used_del h.nodup p
    cases hg : fGet S p with
    | none => simp
    | some b =>
      simp only
      rw [used_put (h.del p).nodup]
      rw [hg] at h1
      have := used_sub (fDel_sub (fDel S p) q)
      simp at h1
      omega
  | rm p =>
    show fUsed (fDel S p) ≤ fUsed S + 0
    exact used_sub (fDel_sub S p)
theorem used_mks : ∀ (l : List Chg) {S : Fls}, Srt S → fUsed (l.foldl mkF S) ≤ fUsed S + dataSum l
  | [], S, _ => by simp [dataSum]
  | c :: r, S, h => by
    have h1 := used_mk h c
    have h2 := used_mks r (h.mk c)
    simp [dataSum] at h2 ⊢
    omega
theorem half_le (b : Byts) : (halfB b).length ≤ b.length := by simp [halfB]; omega
theorem used_rst : ∀ (l : List Chg) (ks : List Bool) {S : Fls}, Srt S → fUsed (rstF l ks S) ≤ fUsed S + dataSum l
  | [], ks, S, _ => by simp [dataSum, rstF]
  | c :: r, ks, S, h => by
    have hd : dataSum (c :: r) = c.data + dataSum r := by simp [dataSum]
    rw [hd]
    unfold rstF
    split
    · cases c with
      | wr p b =>
        simp only
        have h2 := used_rst r ks.tail.tail (h.put p (if ks.tail.headD false = true then b else halfB b))
        have h1 := used_mk h (.wr p (if ks.tail.headD false = true then b else halfB b))
        have h3 : (if ks.tail.headD false = true then b else halfB b).length ≤ b.length := by
          split
          · exact Nat.le_refl _
          · exact half_le b
        simp only [Chg.data, mkF] at h1 ⊢
        omega
      | rn p q =>
        have h2 := used_rst r ks.tail (h.mk (.rn p q))
        have h1 := used_mk h (.rn p q)
        simp only
        omega
      | rm p =>
        have h2 := used_rst r ks.tail (h.mk (.rm p))
        have h1 := used_mk h (.rm p)
        simp only
        omega
    · have h2 := used_rst r ks.tail h
      omega
/-- As many bytes as there may ever be. -/
def Dk.weight (D : Dk) : Nat := fUsed D.lasts + dataSum D.waits
theorem Dk.Ok.used {D : Dk} (h : D.Ok) : fUsed D.seen ≤ D.weight := by rw [h.seen]; exact used_mks _ h.lasts
theorem dataSum_snoc (l : List Chg) (c : Chg) : dataSum (l ++ [c]) = dataSum l + c.data := by simp [dataSum]
theorem weight_do (D : Dk) (c : Chg) : (D.do_ c).weight = D.weight + c.data := by
  show fUsed D.lasts + dataSum (D.waits ++ [c]) = _
  rw [dataSum_snoc]; unfold Dk.weight; omega
theorem weight_write (D : Dk) (p b : Byts) : (writeD D p b).1.weight ≤ D.weight + b.length := by
  unfold writeD
  split
  · exact Nat.le_add_right _ _
  · split
    · exact Nat.le_add_right _ _
    · split
      · exact Nat.le_add_right _ _
      · rw [weight_do]; exact Nat.le_refl _
theorem weight_rename (D : Dk) (p q : Byts) : (renameD D p q).1.weight ≤ D.weight := by
  unfold renameD
  split
  · exact Nat.le_refl _
  · split
    · exact Nat.le_refl _
    · split
      · exact Nat.le_refl _
      · rw [weight_do]; exact Nat.le_refl _
theorem weight_remove (D : Dk) (p : Byts) : (removeD D p).1.weight ≤ D.weight := by
  unfold removeD
  split
  · exact Nat.le_refl _
  · split
    · exact Nat.le_refl _
    · rw [weight_do]; exact Nat.le_refl _
theorem weight_sync {D : Dk} (h : D.Ok) : (syncD D).1.weight ≤ D.weight := by
  unfold syncD
  split
  · exact Nat.le_refl _
  · show fUsed D.seen + dataSum [] ≤ _
    have := h.used
    simp [dataSum]; omega
theorem weight_restart {D : Dk} (h : D.Ok) (ks : List Bool) : (restartD D ks).weight ≤ D.weight := by
  show fUsed (rstF D.waits ks D.lasts) + dataSum [] ≤ _
  have := used_rst D.waits ks h.lasts
  unfold Dk.weight
  simp [dataSum]; simp [dataSum] at this; omega
theorem waits_write (D : Dk) (p b : Byts) : (writeD D p b).1.waits.length ≤ D.waits.length + 1 := by
  unfold writeD; split <;> (try split) <;> (try split) <;> simp [Dk.do_]
theorem waits_rename (D : Dk) (p q : Byts) : (renameD D p q).1.waits.length ≤ D.waits.length + 1 := by
  unfold renameD; split <;> (try split) <;> (try split) <;> simp [Dk.do_]
theorem waits_remove (D : Dk) (p : Byts) : (removeD D p).1.waits.length ≤ D.waits.length + 1 := by
  unfold removeD; split <;> (try split) <;> simp [Dk.do_]
theorem waits_sync (D : Dk) : (syncD D).1.waits.length ≤ D.waits.length := by
  unfold syncD; split <;> simp
theorem room_write (D : Dk) (p b : Byts) : (writeD D p b).1.room = D.room := by
  unfold writeD; split <;> (try split) <;> (try split) <;> rfl
theorem room_rename (D : Dk) (p q : Byts) : (renameD D p q).1.room = D.room := by
  unfold renameD; split <;> (try split) <;> (try split) <;> rfl
theorem room_remove (D : Dk) (p : Byts) : (removeD D p).1.room = D.room := by
  unfold removeD; split <;> (try split) <;> rfl
theorem room_sync (D : Dk) : (syncD D).1.room = D.room := by
  unfold syncD; split <;> rfl
end Go.Proofs.YtbcldknecdbemaaGreatDoor

/-
  Texts as lists of bytes; how a range goes over any text; path.Name: which texts are names. No condition.
-/
namespace Go.Proofs.YtbcldknecdbemaaGreatDoor
open Go.RowKit
set_option linter.unusedVariables false
set_option maxRecDepth 20000

/-- A text as a value. -/
abbrev tv (l : List UInt8) : Value := .string ⟨l.toArray⟩
theorem tv_one (l : List (List UInt8)) : ∀ u ∈ l.map tv, u.oneCell' = true := fun u hu => by
  obtain ⟨b, _, rfl⟩ := List.mem_map.1 hu
  rfl
theorem toList_mk (l : List UInt8) : (⟨l.toArray⟩ : ByteArray).toList = l := by rw [ByteArray.toList_eq]
theorem size_mk (l : List UInt8) : (⟨l.toArray⟩ : ByteArray).size = l.length := by show l.toArray.size = _; simp
theorem run_teq {P : Program} (t : TypeId) (l r : List UInt8) : binOp .eql t (tv l) (tv r) = (pure (.bool (l == r)) : Sem Value) := by rw [binOp_string_eql, toList_mk, toList_mk]
theorem run_tne {P : Program} (t : TypeId) (l r : List UInt8) : binOp .neq t (tv l) (tv r) = (pure (.bool !(l == r)) : Sem Value) := by rw [binOp_string_neq, toList_mk, toList_mk]

theorem get_mk (l : List UInt8) (p : Nat) (h : p < l.length) : (⟨l.toArray⟩ : ByteArray).get! p = l[p] := by
  simp [ByteArray.get!, h]
theorem dec_cont {l : List UInt8} {p k : Nat} (h : (decide (p + k < (⟨l.toArray⟩ : ByteArray).size) && (((⟨l.toArray⟩ : ByteArray).get! (p + k)).toNat / 64 == 2)) = true) : p + k < l.length ∧ ∃ b, l[p + k]? = some b ∧ 128 ≤ b.toNat := by
  rw [Bool.and_eq_true, decide_eq_true_eq, size_mk, beq_iff_eq] at h
  obtain ⟨h1, h2⟩ := h
  rw [get_mk l _ h1] at h2
  exact ⟨h1, _, List.getElem?_eq_getElem h1, by omega⟩
/-- What a range's step over a text at p is: one byte below 128, as it is; or a number from 128 on, of bytes each of which is from 128 on. -/
structure Step (l : List UInt8) (p : Nat) (r k : Nat) : Prop where
  pos : 1 ≤ k
  fits : p + k ≤ l.length
  byte : (k = 1 ∧ ∃ b, l[p]? = some b ∧ r = b.toNat) ∨ (128 ≤ r ∧ ∀ b ∈ (l.drop p).take k, 128 ≤ b.toNat)
theorem high_take {l : List UInt8} {p k : Nat} (h : ∀ j, j < k → ∃ b, l[p + j]? = some b ∧ 128 ≤ b.toNat) : ∀ b ∈ (l.drop p).take k, 128 ≤ b.toNat := fun b hb => by
  obtain ⟨j, hj⟩ := List.getElem?_of_mem hb
  rw [List.getElem?_take] at hj
  split at hj
  · rename_i hlt
    rw [List.getElem?_drop] at hj
    obtain ⟨c, hc, h1⟩ := h j hlt
    rw [hc] at hj
    injection hj with hj
    rw [← hj]; exact h1
  · cases hj
theorem step_at (l : List UInt8) (p : Nat) (h : p < l.length) : Step l p (Utf8.decode ⟨l.toArray⟩ p).1 (Utf8.decode ⟨l.toArray⟩ p).2 := by
  have hs : p < (⟨l.toArray⟩ : ByteArray).size := by rw [size_mk]; exact h
  by_cases ha : (l[p]).toNat < 128
  · have e : Utf8.decode ⟨l.toArray⟩ p = (l[p].toNat, 1) := by
      unfold Utf8.decode
      simp only [Nat.add_zero, get_mk l p h, ha, if_true]
    rw [e]
    exact ⟨Nat.le_refl _, by omega, .inl ⟨rfl, _, List.getElem?_eq_getElem h, rfl⟩⟩
  · have hr : 128 ≤ (Utf8.decode ⟨l.toArray⟩ p).1 ∧ 1 ≤ (Utf8.decode ⟨l.toArray⟩ p).2 := decode_high _ p hs (by
      have : ((⟨l.toArray⟩ : ByteArray)[p]'hs) = l[p] := by rfl
      rw [this]; omega)
    have h0 : ∃ b, l[p + 0]? = some b ∧ 128 ≤ b.toNat := ⟨_, List.getElem?_eq_getElem h, by omega⟩
    have hk : ∃ k, (Utf8.decode ⟨l.toArray⟩ p).2 = k ∧ p + k ≤ l.length ∧ ∀ j, j < k → ∃ b, l[p + j]? = some b ∧ 128 ≤ b.toNat := by
      have one : ∃ k, 1 = k ∧ p + k ≤ l.length ∧ ∀ j, j < k → ∃ b, l[p + j]? = some b ∧ 128 ≤ b.toNat := ⟨1, rfl, by omega, fun j hj => (show j = 0 by omega) ▸ h0⟩
      unfold Utf8.decode
      simp only [Nat.add_zero, get_mk l p h, ha, if_false]
      split
      · rename_i c1
        rw [Bool.and_eq_true] at c1
        have d1 := dec_cont c1.2
        split
        · refine ⟨2, rfl, by omega, fun j hj => ?_⟩
          match j, hj with
          | 0, _ => exact h0
          | 1, _ => exact d1.2
        · exact one
      · split
        · rename_i c1
          rw [Bool.and_eq_true, Bool.and_eq_true] at c1
          have d1 := dec_cont c1.1.2
          have d2 := dec_cont c1.2
          split
          · refine ⟨3, rfl, by omega, fun j hj => ?_⟩
            match j, hj with
            | 0, _ => exact h0
            | 1, _ => exact d1.2
            | 2, _ => exact d2.2
          · exact one
        · split
          · rename_i c1
            rw [Bool.and_eq_true, Bool.and_eq_true, Bool.and_eq_true] at c1
            have d1 := dec_cont c1.1.1.2
            have d2 := dec_cont c1.1.2
            have d3 := dec_cont c1.2
            split
            · refine ⟨4, rfl, by omega, fun j hj => ?_⟩
              match j, hj with
              | 0, _ => exact h0
              | 1, _ => exact d1.2
              | 2, _ => exact d2.2
              | 3, _ => exact d3.2
            · exact one
          · exact one
    obtain ⟨k, hk, hfit, hall⟩ := hk
    rw [hk] at hr ⊢
    exact ⟨hr.2, hfit, .inr ⟨hr.1, high_take hall⟩⟩
theorem Step.free {l : List UInt8} {p r k : Nat} (h : Step l p r k) {c : Nat} (hc : c < 128) (hr : r ≠ c) : ∀ b ∈ (l.drop p).take k, b.toNat ≠ c := fun b hb => by
  rcases h.byte with ⟨rfl, x, hx, e⟩ | ⟨_, h2⟩
  · obtain ⟨j, hj⟩ := List.getElem?_of_mem hb
    rw [List.getElem?_take] at hj
    split at hj
    · rename_i hlt
      obtain rfl : j = 0 := by omega
      rw [List.getElem?_drop, Nat.add_zero, hx] at hj
      injection hj with hj
      rw [← hj, ← e]; exact hr
    · cases hj
  · have := h2 b hb
    omega
theorem Step.here {l : List UInt8} {p r k : Nat} (h : Step l p r k) {c : Nat} (hc : c < 128) (hr : r = c) : k = 1 ∧ ∃ b, l[p]? = some b ∧ b.toNat = c := by
  rcases h.byte with ⟨rfl, x, hx, e⟩ | ⟨h1, _⟩
  · exact ⟨rfl, x, hx, by omega⟩
  · omega
theorem take_more (l : List UInt8) (p k : Nat) : l.take (p + k) = l.take p ++ (l.drop p).take k := by rw [List.take_add]

/-- No byte 0 or 47. -/
def freeB (s : List UInt8) : Bool := s.all (fun c => c != 0 && c != 47)
theorem free_more {l : List UInt8} {p r k : Nat} (h : Step l p r k) (h0 : r ≠ 0) (h1 : r ≠ 47) (hp : freeB (l.take p) = true) : freeB (l.take (p + k)) = true := by
  unfold freeB at hp ⊢
  rw [take_more, List.all_append, hp, Bool.true_and, List.all_eq_true]
  intro b hb
  have a0 := h.free (c := 0) (by omega) h0 b hb
  have a1 := h.free (c := 47) (by omega) h1 b hb
  rw [Bool.and_eq_true, bne_iff_ne, bne_iff_ne]
  exact ⟨fun e => a0 (by rw [e]; rfl), fun e => a1 (by rw [e]; rfl)⟩
theorem free_not {l : List UInt8} {p r k : Nat} (h : Step l p r k) (h0 : r = 0 ∨ r = 47) : freeB l = false := by
  obtain ⟨b, hb, hc⟩ : ∃ b, l[p]? = some b ∧ (b = 0 ∨ b = 47) := by
    rcases h0 with h0 | h0
    · obtain ⟨_, b, hb, hc⟩ := h.here (c := 0) (by omega) h0
      exact ⟨b, hb, .inl (UInt8.toNat_inj.1 hc)⟩
    · obtain ⟨_, b, hb, hc⟩ := h.here (c := 47) (by omega) h0
      exact ⟨b, hb, .inr (UInt8.toNat_inj.1 hc)⟩
  unfold freeB
  rw [List.all_eq_false]
  refine ⟨b, List.mem_of_getElem? hb, ?_⟩
  rcases hc with rfl | rfl <;> decide

theorem iterPos_of {w : World} {k : Nat} {s : ByteArray} {p : Nat} (h : w.heap[k]? = some (.stringIter s p)) : w.iterPos k = p := by simp [World.iterPos, h]

/-- Are the ends of a name as they should be? -/
def endsB (s : List UInt8) : Bool := decide (0 < s.length) && decide (s.length < 25) && s != [46] && s != [46, 46]
theorem name_parts (s : List UInt8) : nameB s = (freeB s && endsB s) := by
  unfold nameB freeB endsB
  simp only [Bool.and_assoc]
theorem rune_eq (r : Nat) (c : Nat) : ((r : Int) == (c : Int)) = decide (r = c) := by
  by_cases h : r = c
  · subst h; simp
  · simp [h]; omega

end Go.Proofs.YtbcldknecdbemaaGreatDoor

/-
  Rows of records (elements of several cells), of no program: where each one lies, its load, append to an owned one.
-/
namespace Go.Proofs.YtbcldknecdbemaaGreatDoor
open Go.RowKit
set_option linter.unusedVariables false
set_option maxRecDepth 20000

theorem flat_len {k : Nat} : ∀ {rs : List (List Value)}, (∀ r ∈ rs, r.length = k) → rs.flatten.length = rs.length * k
  | [], _ => by simp
  | r :: rs, h => by
    have h1 := h r (by simp)
    have ih := flat_len (rs := rs) fun x hx => h x (by simp [hx])
    simp [ih, h1, Nat.add_mul]; omega
theorem flat_at {k : Nat} : ∀ {rs : List (List Value)} {i j : Nat} {r : List Value} {u : Value}, (∀ r ∈ rs, r.length = k) → rs[i]? = some r → r[j]? = some u → rs.flatten[i * k + j]? = some u
  | [], i, j, r, u, _, hi, _ => by simp at hi
  | x :: rs, 0, j, r, u, h, hi, hj => by
    simp at hi
    subst hi
    have h1 := h x (by simp)
    have : j < x.length := (List.getElem?_eq_some_iff.1 hj).1
    rw [List.flatten_cons, Nat.zero_mul, Nat.zero_add, List.getElem?_append_left this]; exact hj
  | x :: rs, i + 1, j, r, u, h, hi, hj => by
    have h1 := h x (by simp)
    have ih := flat_at (rs := rs) (i := i) (j := j) (fun y hy => h y (by simp [hy])) (by simpa using hi) hj
    rw [List.flatten_cons, List.getElem?_append_right (by rw [h1, Nat.add_mul]; omega)]
    rw [show (i + 1) * k + j - x.length = i * k + j by rw [h1, Nat.add_mul]; omega]
    exact ih

/-- Records of k cells lie one behind the other. -/
structure Recs (w : World) (A : Option Addr) (k : Nat) (rs : List (List Value)) : Prop where
  each : ∀ r ∈ rs, r.length = k
  lies : Lies w w.heap.size A rs.flatten
section
variable {w w' : World} {A : Option Addr} {k : Nat} {rs : List (List Value)}
theorem Recs.later (h : Recs w A k rs) (hg : Grows w w') : Recs w' A k rs := ⟨h.each, h.lies.later hg⟩
theorem Recs.nil : Recs w A k [] := ⟨by simp, Lies.empty⟩
/-- The cells of one of them. -/
theorem Recs.at_ (h : Recs w A k rs) (hk : 0 < k) {i : Nat} {r : List Value} (hi : rs[i]? = some r) : ∃ ad, A = some ad ∧ ad.block < w.heap.size ∧ ∀ j u, r[j]? = some u → w.cell? (ad.add (i * k + j)) = some u := by
  have hl := h.each r (List.mem_of_getElem? hi)
  obtain ⟨u0, hu0⟩ : ∃ u, r[0]? = some u := ⟨_, List.getElem?_eq_getElem (by omega)⟩
  obtain ⟨ad, rfl, hb, _⟩ := h.lies _ _ (flat_at h.each hi hu0)
  exact ⟨ad, rfl, hb, fun j u hu => by obtain ⟨ad', e, _, hc⟩ := h.lies _ _ (flat_at h.each hi hu); injection e with e; rw [e]; exact hc⟩
theorem Recs.of_own {base : Nat} {e : TypeId} {n c : Nat} (hr : ∀ r ∈ rs, r.length = k) (hk : 0 < k) (h : w.ownsRow base e k (.slice A n c) n rs.flatten) : Recs w A k rs ∧ rs.length = n := by
  have hn : rs.length = n := by
    have := h.1
    rw [flat_len hr] at this
    exact Nat.eq_of_mul_eq_mul_right hk this
  refine ⟨⟨hr, fun j u hu => ?_⟩, hn⟩
  obtain ⟨h1, h2⟩ := h
  rcases h2 with ⟨_, h0⟩ | ⟨g, cap, cur, hv, _, hh, hnc, _, hsz, htk⟩
  · subst h0
    rw [List.length_eq_zero_iff] at hn
    subst hn
    simp at hu
  · injection hv with hA
    subst hA
    have hg : g < w.heap.size := (Array.getElem?_eq_some_iff.1 hh).1
    refine ⟨⟨g, 0, none⟩, rfl, hg, ?_⟩
    rw [add_plain, cell_of_row w g _ cur e (0, 0) hh]
    have : (cur.toList.take (n * k))[j]? = some u := by rw [htk]; exact hu
    rw [List.getElem?_take] at this
    split at this
    · simpa using this
    · cases this
end

section
variable {P : Program}
/-- A record is loaded, wherever it lies. -/
theorem load_any (w : World) (a : Addr) (ty : TypeId) (cs : List Value) (d : TypeDesc) (hc : ∀ j v, cs[j]? = some v → w.cell? (a.add j) = some v) (hu : P.underlying ty = some d) (hd : d.isRow = true) (hi : (P.info? ty).map (·.size) = some cs.length) :
    (Instr.loadAt ty (.pointer (some a))).run P w = .ok (.agg cs.toArray) w := by
  have hl : (loadCells a cs.length).run P w = .ok cs.toArray w := run_loadCells_list (P := P) w a cs hc
  cases hq : P.info? ty with
  | none => simp [hq] at hi
  | some i =>
    have hs : i.size = cs.length := by simpa [hq] using hi
    have hagg : (isAgg ty).run P w = .ok true w := by
      unfold isAgg
      rw [Sem.run_bind, run_underlying hu w]
      cases d <;> simp_all
    simp [Instr.loadAt, Instr.sureAddr, loadVar, Sem.run_bind, hagg, sizeOf, typeInfo, hq, hs, hl]
/-- append(owned records, source...): the source may be nil, empty, or lie anywhere. -/
theorem run_append_recs (w : World) (base : Nat) (t ty e : TypeId) (i : TypeInfo) (z : Value) (k bytes : Nat) (hk : 0 < k) (ht : P.underlying t = some (.slice e)) (hi : P.info? e = some i) (hz : i.zero = some z)
    (hsize : i.size = k) (hby : i.bytes = bytes) (hzs : z.cells.size = k)
    (v : Value) (n : Nat) (xs : List Value) (hown : w.ownsRow base e k v n xs)
    (B : Nat) (A : Option Addr) (m c : Nat) (news : List Value) (hl : news.length = m * k) (hr : Lies w B A news) (h1 : ∀ u ∈ news, u.oneCell' = true)
    (h63 : n + m ≤ maxLen) (hbytes : (n + m) * bytes ≤ 140737488355328) (hbase : base ≤ w.heap.size) :
    ∃ v' w', (Builtin.append_ #[t, t] ty #[v, .slice A m c]).run P w = .ok v' w' ∧ w'.ownsRow base e k v' (n + m) (xs ++ news) ∧ w.grownBy w' v.ownBlock ∧
      (v'.ownBlock = v.ownBlock ∨ v'.ownBlock = some w.heap.size) := by
  cases A with
  | none =>
    have hn := hr.none_empty
    subst hn
    have hm : m = 0 := by
      rcases Nat.eq_zero_or_pos m with h | h
      · exact h
      · have := Nat.mul_pos h hk; simp at hl; omega
    subst hm
    refine ⟨v, w, ?_, by simpa using hown, World.grownBy.refl w _, .inl rfl⟩
    rcases hown.2 with ⟨rfl, rfl⟩ | ⟨g, cap, cur, rfl, _, _, hnc, _⟩
    · simp [Builtin.append_, run_underlying ht, sizeOf, typeInfo, hi, Builtin.lenOf, Builtin.firstCells]
    · simp [Builtin.append_, run_underlying ht, sizeOf, typeInfo, hi, Builtin.lenOf, Builtin.firstCells, hnc, storeCells]
  | some ad =>
    obtain ⟨v', w', hrun, h2, h3, _, h5⟩ := run_append_own_at (P := P) w base t ty e i z k bytes ht hi hz hsize hby hzs hk v n xs hown ad m c news hl hr.cells h1 h63 hbytes hbase
    exact ⟨v', w', hrun, h2, h3, h5⟩
theorem wpList_append_recs {w : World} {ops : Array Oper} {rest : List Oper} {o : Oper} {a : Act} {Q : Exit → Act → World → Prop} (hgd : o.guard = none) (s x : Operand) (t : TypeId)
    (ho : o.op = .call { callee := .builtin .append, args := #[s, x], argTypes := #[t, t] })
    (base : Nat) (e : TypeId) (i : TypeInfo) (z : Value) (k bytes : Nat) (hk : 0 < k) (ht : P.underlying t = some (.slice e)) (hi : P.info? e = some i) (hz : i.zero = some z)
    (hsize : i.size = k) (hby : i.bytes = bytes) (hzs : z.cells.size = k)
    (v : Value) (n : Nat) (xs : List Value) (hs : a.eval s = v) (hown : w.ownsRow base e k v n xs)
    (B : Nat) (A : Option Addr) (m c : Nat) (news : List Value) (hx : a.eval x = .slice A m c) (hl : news.length = m * k) (hr : Lies w B A news) (h1 : ∀ u ∈ news, u.oneCell' = true)
    (h63 : n + m ≤ maxLen) (hbytes : (n + m) * bytes ≤ 140737488355328) (hbase : base ≤ w.heap.size)
    (h : ∀ v' w', w'.ownsRow base e k v' (n + m) (xs ++ news) → w.grownBy w' v.ownBlock → (v'.ownBlock = v.ownBlock ∨ v'.ownBlock = some w.heap.size) → wpList P ops Q rest (a.put o.dst v') w') : wpList P ops Q (o :: rest) a w := by
  refine wpList_plain hgd fun K hK => ?_
  obtain ⟨v', w', hrun, h2, h3, h4⟩ := run_append_recs (P := P) w base t o.type e i z k bytes hk ht hi hz hsize hby hzs v n xs hown B A m c news hl hr h1 h63 hbytes hbase
  unfold Oper.wp execOp
  simp only [ho, resolve, invoke, builtin, Sem.run_bind, Sem.run_pure, Result.andThen_ok, List.map_toArray, List.map_cons, List.map_nil, hs, hx, hrun]
  exact hK _ _ (h v' w' h2 h3 h4)
end
end Go.Proofs.YtbcldknecdbemaaGreatDoor

/-
  Worlds of which some blocks may have turned (of no program): what stays; owned rows cut and stored into; slices of records cut.
-/
namespace Go.Proofs.YtbcldknecdbemaaGreatDoor
open Go.RowKit
set_option linter.unusedVariables false
set_option maxRecDepth 20000
set_option linter.unusedSectionVars false

/-- Nothing but the blocks of S has turned. -/
structure Turns (S : Nat → Prop) (w w' : World) : Prop where
  os : w'.os = w.os
  tape : w'.tape = w.tape
  output : w'.output = w.output
  size : w.heap.size ≤ w'.heap.size
  block : ∀ k, k < w.heap.size → ¬ S k → w'.heap[k]? = w.heap[k]?
section
variable {S S' : Nat → Prop} {w w' w'' : World}
theorem Turns.refl (S : Nat → Prop) (w : World) : Turns S w w := ⟨rfl, rfl, rfl, Nat.le_refl _, fun _ _ _ => rfl⟩
theorem Turns.of_grows (h : Grows w w') : Turns S w w' := ⟨h.os, h.tape, h.output, h.size, fun k hk _ => h.block k hk⟩
theorem Turns.of_by {row : Option Nat} (h : w.grownBy w' row) (hS : ∀ g, row = some g → g < w.heap.size → S g) : Turns S w w' := ⟨h.os, h.tape, h.output, h.size, fun k hk hn => h.block k hk fun e => hn (hS k e.symm hk)⟩
theorem Turns.of_set {b o : Nat} (w : World) (u : Value) (hb : S b) : Turns S w (w.setCell ⟨b, o, none⟩ u) := ⟨rfl, rfl, rfl, by simp [World.setCell], fun k hk hn => Below.heap_setCell w _ u k fun e => hn (by rw [e]; exact hb)⟩
theorem Turns.trans (h : Turns S w w') (k : Turns S w' w'') : Turns S w w'' :=
  ⟨k.os.trans h.os, k.tape.trans h.tape, k.output.trans h.output, Nat.le_trans h.size k.size, fun i hi hn => (k.block i (Nat.lt_of_lt_of_le hi h.size) hn).trans (h.block i hi hn)⟩
theorem Turns.mono (h : Turns S w w') (hS : ∀ k, k < w.heap.size → S k → S' k) : Turns S' w w' := ⟨h.os, h.tape, h.output, h.size, fun k hk hn => h.block k hk fun e => hn (hS k hk e)⟩
/-- Behind it, what is new in between may turn, too. -/
theorem Turns.then_ (h : Turns S w w') (k : Turns S' w' w'') (hS : ∀ i, i < w.heap.size → S' i → S i) : Turns S w w'' :=
  ⟨k.os.trans h.os, k.tape.trans h.tape, k.output.trans h.output, Nat.le_trans h.size k.size, fun i hi hn => (k.block i (Nat.lt_of_lt_of_le hi h.size) (fun e => hn (hS i hi e))).trans (h.block i hi hn)⟩
theorem Turns.grows (h : Turns S w w') (hS : ∀ k, k < w.heap.size → ¬ S k) : Grows w w' := ⟨h.os, h.tape, h.output, h.size, fun k hk => h.block k hk (hS k hk)⟩
theorem Turns.cell (h : Turns S w w') {a : Addr} {v : Value} (hc : w.cell? a = some v) (hn : ¬ S a.block) : w'.cell? a = some v :=
  (World.cell?_of_block (h.block a.block (World.block_lt_of_cell? w a hc) hn)).trans hc
theorem Has.turned {b : Nat} {vs : List Value} (h : Has w b vs) (ht : Turns S w w') (hn : ¬ S b) : Has w' b vs :=
  ⟨Nat.lt_of_lt_of_le h.lt ht.size, fun j u hu => ht.cell (h.cells j u hu) hn, fun j => (World.frozen?_of_block (ht.block b h.lt hn)).trans (h.free j)⟩
theorem own_turned {base : Nat} {e : TypeId} {size : Nat} {v : Value} {n : Nat} {xs : List Value} (h : w.ownsRow base e size v n xs) (ht : Turns S w w') (hn : ∀ g, v.ownBlock = some g → ¬ S g) : w'.ownsRow base e size v n xs := by
  refine ⟨h.1, h.2.imp id ?_⟩
  rintro ⟨g, cap, cur, hv, hb, hh, rest⟩
  refine ⟨g, cap, cur, hv, hb, ?_, rest⟩
  rw [ht.block g (Array.getElem?_eq_some_iff.1 hh).1 (hn g (by rw [hv]; rfl))]
  exact hh
end
theorem turns_cells (b : Nat) : ∀ (vs : List Value) (o : Nat) (w : World), Turns (fun k => k = b) w (w.setCells b o vs)
  | [], _, w => Turns.refl _ w
  | v :: r, o, w => by
    rw [World.setCells]
    exact (Turns.of_set (S := fun k => k = b) w v rfl).trans (turns_cells b r (o + 1) _)
/-- A store of a whole row in place of another: no other block has turned. -/
theorem wpList_storeT {P : Program} {w : World} {ops : Array Oper} {rest : List Oper} {op : Oper} {a : Act} {Q : Exit → Act → World → Prop} (hgd : op.guard = none) (ty : TypeId) (x y : Operand) (ho : op.op = .store ty x y)
    (b : Nat) (vs vs' : List Value) (n : Nat) (hx : a.eval x = .pointer (some ⟨b, 0, none⟩)) (hy : a.eval y = .agg vs'.toArray) (hb : Has w b vs) (hl : vs.length = n) (hl' : vs'.length = n) (hi : (P.info? ty).map (·.size) = some n)
    (h1 : ∀ v ∈ vs', v.oneCell' = true) (h : ∀ w', Has w' b vs' → Turns (fun k => k = b) w w' → wpList P ops Q rest (a.put op.dst undef) w') : wpList P ops Q (op :: rest) a w := by
  have hz : vs'.toArray.size = n := by simp [hl']
  refine wpList_store_mid hgd ty x y ho b 0 vs'.toArray hx hy (by rw [hz, ← hl]; exact hb.there) (by rw [hz]; exact hi) (all_oneCell_toArray h1) ?_
  exact h _ (hb.put_ (by rw [hl, hl'])) (turns_cells b _ 0 w)
theorem turns_grow {w w' w'' : World} {b : Nat} (hg : Grows w w') (ht : Turns (fun k => k = b) w' w'') (hb : w.heap.size ≤ b) : Grows w w'' :=
  ⟨ht.os.trans hg.os, ht.tape.trans hg.tape, ht.output.trans hg.output, Nat.le_trans hg.size ht.size, fun k hk => (ht.block k (Nat.lt_of_lt_of_le hk hg.size) (by omega)).trans (hg.block k hk)⟩
theorem own_take {w : World} {base : Nat} {e : TypeId} {size : Nat} {g n c : Nat} {xs : List Value} (h : w.ownsRow base e size (.slice (some ⟨g, 0, none⟩) n c) n xs) {k : Nat} (hk : k ≤ n) : w.ownsRow base e size (.slice (some ⟨g, 0, none⟩) k c) k (xs.take (k * size)) := by
  obtain ⟨h1, h2⟩ := h
  have hle := Nat.mul_le_mul_right size hk
  refine ⟨by rw [List.length_take, h1]; omega, ?_⟩
  rcases h2 with ⟨hv, _⟩ | ⟨g', cap, cur, hv, hb, hh, hnc, hm, hs, ht⟩
  · cases hv
  · injection hv with e1 e2 e3
    subst e3
    refine .inr ⟨g', c, cur, by rw [e1], hb, hh, by omega, hm, hs, ?_⟩
    rw [← ht, List.take_take, Nat.min_eq_left hle]
theorem own_put {w : World} {base : Nat} {e : TypeId} {g n c k : Nat} {vs : List Value} {x : Value} (h : w.ownsRow base e 1 (.slice (some ⟨g, 0, none⟩) n c) n vs) : (w.setCell ⟨g, k, none⟩ x).ownsRow base e 1 (.slice (some ⟨g, 0, none⟩) n c) n (vs.set k x) := by
  refine ⟨by simpa using h.1, .inr ?_⟩
  rcases h.2 with ⟨hv, _⟩ | ⟨g', cap, cur, hv, hb, hh, hnc, hm, hs, ht⟩
  · cases hv
  · injection hv with h1 h2 h3
    injection h1 with h1
    injection h1 with h1
    subst h1 h3
    rw [Nat.mul_one] at ht hs
    exact ⟨g, c, cur.setIfInBounds k x, rfl, hb, heap_setCell_same w g k cur e x hh, hnc, hm, by simpa using hs, by rw [Nat.mul_one, ← ht]; simp [List.take_set]⟩

section
variable {P : Program} {t e : TypeId} (ht : P.underlying t = some (.slice e)) {sz : Nat} (hs : (P.info? e).map (·.size) = some sz) (A : Option Addr) (n c m : Nat) (k : IntKind)
include ht hs
theorem elem_ofK : P.elem t = e := by unfold Program.elem; simp [ht]
theorem size_of_elemK (u : World) : (sizeOf (P.elem t)).run P u = .ok sz u := by
  obtain ⟨i, hi, h1⟩ := Option.map_eq_some_iff.1 hs
  rw [elem_ofK ht hs]
  simp [sizeOf, typeInfo, hi, h1]
theorem run_cutK_to (h : m ≤ c) (u : World) : (Instr.sliceAt t (.slice A n c) none (some (.int k (m : Int))) none).run P u = .ok (.slice A m c) u := by
  have ht' : P.underlying t = some (.slice (P.elem t)) := by rw [elem_ofK ht hs]; exact ht
  rw [run_sliceAt_slice u t _ _ _ _ ht', run_slice_h u t A n c ht' k m (by omega) (by omega), size_of_elemK ht hs]
  simp [Result.andThen, sliced, map_add_zero]
/-- What is left behind the first m. -/
def cutA (A : Option Addr) (c m sz : Nat) : Option Addr := if c = m then A else A.map (·.add (m * sz))
theorem run_cutK_from (h : m ≤ n) (hc : n ≤ c) (u : World) : (Instr.sliceAt t (.slice A n c) (some (.int k (m : Int))) none none).run P u = .ok (.slice (cutA A c m sz) (n - m) (c - m)) u := by
  have ht' : P.underlying t = some (.slice (P.elem t)) := by rw [elem_ofK ht hs]; exact ht
  rw [run_sliceAt_slice u t _ _ _ _ ht', run_slice_l u t A n c ht' k m (by omega) (by omega), size_of_elemK ht hs]
  by_cases hcm : c = m
  · subst hcm; simp [Result.andThen, sliced, cutA]
  · simp [Result.andThen, sliced, cutA, hcm]
end
end Go.Proofs.YtbcldknecdbemaaGreatDoor

/-
  Maps of texts by texts (of no program): files; what is looked up, stored, deleted, counted, gone through, copied.
-/
namespace Go.Proofs.YtbcldknecdbemaaGreatDoor
open Go.RowKit
set_option linter.unusedVariables false
set_option maxRecDepth 20000
set_option linter.unusedSectionVars false

theorem tv_inj {a b : Byts} (h : tv a = tv b) : a = b := by
  injection h with h
  injection h with h
  simpa using congrArg Array.toList h
abbrev kvs (S : Fls) : List (Value × Value) := S.map (fun x => (tv x.1, tv x.2))
abbrev ekv (es : Array MapEntry) : List (Value × Value) := es.toList.map (fun e => (e.key, e.val))
/-- Block b is a map that holds these files. -/
def Files (w : World) (b : Nat) (S : Fls) : Prop := ∃ es clock l, w.heap[b]? = some (.map es clock) ∧ MapKept.Stamped es clock ∧ ekv es = kvs l ∧ l.Perm S

section
variable {w w' : World} {b : Nat} {S S' : Fls}
theorem Files.lt (h : Files w b S) : b < w.heap.size := by
  obtain ⟨es, clock, l, hb, _⟩ := h
  exact (Array.getElem?_eq_some_iff.1 hb).1
theorem Files.at_ (h : Files w b S) (hb : w'.heap[b]? = w.heap[b]?) : Files w' b S := by
  obtain ⟨es, clock, l, h1, h2⟩ := h
  exact ⟨es, clock, l, hb.trans h1, h2⟩
theorem Files.later (h : Files w b S) (hg : Grows w w') : Files w' b S := h.at_ (hg.block b h.lt)
theorem Files.turned {Q : Nat → Prop} (h : Files w b S) (ht : Turns Q w w') (hn : ¬ Q b) : Files w' b S := h.at_ (ht.block b h.lt hn)
theorem Files.perm (h : Files w b S) (hp : S.Perm S') : Files w b S' := by
  obtain ⟨es, clock, l, h1, h2, h3, h4⟩ := h
  exact ⟨es, clock, l, h1, h2, h3, h4.trans hp⟩
theorem kv_nodup {es : Array MapEntry} {clock : Nat} {l : Fls} (hs : MapKept.Stamped es clock) (h : ekv es = kvs l) : (l.map (·.1)).Nodup := by
  have h1 : es.toList.map (·.key) = l.map (fun x => tv x.1) := by
    have := congrArg (List.map Prod.fst) h
    simpa [ekv, kvs, Function.comp_def] using this
  have h2 := hs.2.2
  rw [h1] at h2
  rw [List.Nodup, List.pairwise_map] at h2 ⊢
  exact h2.imp fun h e => h (by rw [e])
theorem Files.nodup (h : Files w b S) : (S.map (·.1)).Nodup := by
  obtain ⟨es, clock, l, h1, h2, h3, h4⟩ := h
  exact (h4.map _).nodup_iff.1 (kv_nodup h2 h3)
theorem Files.new (w : World) : Files (w.alloc (.map #[] 0)) w.heap.size [] := ⟨#[], 0, [], heap_alloc_new w _, MapKept.stamped_empty 0, rfl, List.Perm.refl _⟩
theorem kv_at {es : Array MapEntry} {l : Fls} (h : ekv es = kvs l) (j : Nat) {e : MapEntry} (he : es.toList[j]? = some e) : ∃ x, l[j]? = some x ∧ e.key = tv x.1 ∧ e.val = tv x.2 := by
  have := congrArg (fun m => m[j]?) h
  simp only [ekv, kvs, List.getElem?_map, he, Option.map_some] at this
  cases hl : l[j]? with
  | none => rw [hl] at this; cases this
  | some x =>
    rw [hl] at this
    simp only [Option.map_some, Option.some.injEq, Prod.mk.injEq] at this
    exact ⟨x, rfl, this.1, this.2⟩
theorem kv_isKey {es : Array MapEntry} {l : Fls} (h : ekv es = kvs l) : ∀ x ∈ es.toList, MapKept.IsKey .string x.key := fun x hx => by
  obtain ⟨j, hj⟩ := List.getElem?_of_mem hx
  obtain ⟨y, _, h1, _⟩ := kv_at h j hj
  rw [h1]; trivial
theorem get_at {l : Fls} (hn : (l.map (·.1)).Nodup) {j : Nat} {x : Byts × Byts} (hx : l[j]? = some x) : fGet l x.1 = some x.2 := by
  induction l generalizing j with
  | nil => simp at hx
  | cons y r ih =>
    rw [fGet_cons]
    cases j with
    | zero => simp at hx; subst hx; simp
    | succ j =>
      simp only [List.getElem?_cons_succ] at hx
      have h2 := List.nodup_cons.1 hn
      have hne : y.1 ≠ x.1 := fun e => h2.1 (by show y.1 ∈ r.map (·.1); rw [e]; exact List.mem_map.2 ⟨x, List.mem_of_getElem? hx, rfl⟩)
      rw [if_neg hne, ih h2.2 hx]
theorem set_perm1 {l : Fls} (hn : (l.map (·.1)).Nodup) {j : Nat} {x : Byts × Byts} (hx : l[j]? = some x) (v : Byts) : (l.set j (x.1, v)).Perm ((x.1, v) :: fDel l x.1) := by
  induction l generalizing j with
  | nil => simp at hx
  | cons y r ih =>
    have h2 := List.nodup_cons.1 hn
    cases j with
    | zero =>
      simp at hx; subst hx
      rw [List.set_cons_zero, fDel_cons, if_pos rfl, fDel_none (fGet_none.2 h2.1)]
    | succ j =>
      simp only [List.getElem?_cons_succ] at hx
      have hne : y.1 ≠ x.1 := fun e => h2.1 (by show y.1 ∈ r.map (·.1); rw [e]; exact List.mem_map.2 ⟨x, List.mem_of_getElem? hx, rfl⟩)
      rw [List.set_cons_succ, fDel_cons, if_neg hne]
      exact ((ih h2.2 hx).cons y).trans (List.Perm.swap _ _ _)
theorem erase_del {l : Fls} (hn : (l.map (·.1)).Nodup) {j : Nat} {x : Byts × Byts} (hx : l[j]? = some x) : l.eraseIdx j = fDel l x.1 := by
  induction l generalizing j with
  | nil => simp at hx
  | cons y r ih =>
    have h2 := List.nodup_cons.1 hn
    cases j with
    | zero =>
      simp at hx; subst hx
      rw [List.eraseIdx_cons_zero, fDel_cons, if_pos rfl, fDel_none (fGet_none.2 h2.1)]
    | succ j =>
      simp only [List.getElem?_cons_succ] at hx
      have hne : y.1 ≠ x.1 := fun e => h2.1 (by show y.1 ∈ r.map (·.1); rw [e]; exact List.mem_map.2 ⟨x, List.mem_of_getElem? hx, rfl⟩)
      rw [List.eraseIdx_cons_succ, fDel_cons, if_neg hne, ih h2.2 hx]
theorem del_perm {S S' : Fls} (h : S.Perm S') (p : Byts) : (fDel S p).Perm (fDel S' p) := h.filter _
end

section
variable {P : Program} {T K E : TypeId} (hT : P.underlying T = some (.map K E)) (hK : P.underlying K = some .string) {w : World} {b : Nat} {S : Fls} (p : Byts)
include hT hK

theorem Files.find (h : Files w b S) : ∃ es clock l, w.heap[b]? = some (.map es clock) ∧ MapKept.Stamped es clock ∧ ekv es = kvs l ∧ l.Perm S ∧
    ((fGet S p = none ∧ (Instr.findKey K (tv p) es.toList).run P w = .ok none w ∧ ∀ x ∈ es.toList, x.key ≠ tv p) ∨
     ∃ j e v, fGet S p = some v ∧ (Instr.findKey K (tv p) es.toList).run P w = .ok (some (j, tv v)) w ∧ es.toList[j]? = some e ∧ e.key = tv p ∧ l[j]? = some (p, v)) := by
  obtain ⟨es, clock, l, hb, hs, hl, hp⟩ := h
  refine ⟨es, clock, l, hb, hs, hl, hp, ?_⟩
  have hn := kv_nodup hs hl
  rcases MapKept.findNow_spec (d := .string) (k := tv p) trivial es.toList 0 (kv_isKey hl) with ⟨h1, h2⟩ | ⟨j, e, h1, h2, h3⟩
  · refine .inl ⟨?_, MapKept.run_findKey hK h1, h2⟩
    rw [← get_perm hp hn, fGet_none]
    intro hm
    obtain ⟨x, hx, e⟩ := List.mem_map.1 hm
    have : (tv x.1, tv x.2) ∈ ekv es := by rw [hl]; exact List.mem_map_of_mem hx
    obtain ⟨y, hy, e1⟩ := List.mem_map.1 this
    injection e1 with e2 e3
    exact h2 y hy (by rw [e2, e])
  · obtain ⟨x, hx, e1, e2⟩ := kv_at hl j h2
    obtain rfl : x.1 = p := tv_inj (e1.symm.trans h3)
    refine .inr ⟨j, e, x.2, ?_, ?_, h2, h3, hx⟩
    · rw [← get_perm hp hn]; exact get_at hn hx
    · rw [MapKept.run_findKey hK h1, Nat.zero_add, e2]

/-- m[k] -/
theorem Files.get (hE : ∀ w : World, (zeroValue E).run P w = .ok (tv []) w) (h : Files w b S) (okk : Bool) :
    (Instr.lookup T (.map (some b)) (tv p) okk).run P w = .ok (if okk then .tuple #[tv ((fGet S p).getD []), .bool (fGet S p).isSome] else tv ((fGet S p).getD [])) w := by
  obtain ⟨es, clock, l, hb, hs, hl, hp, h⟩ := Files.find hT hK p h
  have hg := MapKept.run_getObj_map (P := P) hb
  have hc := fun em => MapKept.run_checkKey (w := w) hK (k := tv p) trivial em 9999
  unfold Instr.lookup
  simp only [Sem.run_bind, run_underlying hT, hg, Result.andThen_ok, Sem.run_pure, hc]
  rcases h with ⟨h1, h2, _⟩ | ⟨j, e, v, h1, h2, _⟩
  · simp [h1, h2, hE w]
  · simp [h1, h2]

theorem heap_set_by (w : World) (b : Nat) (o : Obj) : w.grownBy { w with heap := w.heap.setIfInBounds b o } (some b) := by
  refine ⟨rfl, rfl, rfl, by simp, fun k hk hne => ?_⟩
  have : b ≠ k := fun e => hne (by rw [e])
  simp [Array.getElem?_setIfInBounds_ne this]

/-- m[k] = v -/
theorem Files.put (h : Files w b S) (v : Byts) : ∃ w', (Instr.mapUpdate T (.map (some b)) (tv p) (tv v)).run P w = .ok () w' ∧ Files w' b (fPut S p v) ∧ w.grownBy w' (some b) ∧ w'.heap.size = w.heap.size := by
  have hlt := h.lt
  obtain ⟨es, clock, l, hb, hs, hl, hp, h⟩ := Files.find hT hK p h
  have hn := kv_nodup hs hl
  have hg := MapKept.run_getObj_map (P := P) hb
  have hc := fun em => MapKept.run_checkKey (w := w) hK (k := tv p) trivial em 9999
  have hset := fun o => MapKept.run_setObj_map (P := P) o hb
  have hat := fun o : Obj => (MapKept.heap_set (o' := o) hb).1
  have pp : ((p, v) :: fDel l p).Perm (fPut S p v) := (((del_perm hp p).cons _)).trans (fPut_perm S).symm
  rcases h with ⟨h1, h2, h3⟩ | ⟨j, e, v0, h1, h2, h3, h4, h5⟩
  · refine ⟨_, ?_, ⟨es.push { key := tv p, val := tv v, born := clock }, clock + 1, l ++ [(p, v)], hat _, MapKept.stamped_push hs h3, ?_, ?_⟩, heap_set_by hT hK w b _, by simp⟩
    · unfold Instr.mapUpdate
      simp only [Sem.run_bind, run_underlying hT, hg, Result.andThen_ok, hc, h2, hset]
    · simp only [ekv, kvs, Array.toList_push, List.map_append] at hl ⊢
      rw [hl]; rfl
    · have hd : fDel l p = l := fDel_none (by rw [get_perm hp hn]; exact h1)
      rw [hd] at pp
      exact (List.perm_append_comm (l₁ := l) (l₂ := [(p, v)])).trans pp
  · have hk := MapKept.run_keyThatStays (P := P) (w := w) (d := .string) (k := tv p) trivial
    have hkey : (es[j]?).map (·.key) = some (tv p) := by
      rw [← Array.getElem?_toList, h3]; simp [h4]
    refine ⟨_, ?_, ⟨es.modify j (fun e => { e with key := tv p, val := tv v }), clock, l.set j (p, v), hat _, MapKept.stamped_modify hs j _ (fun _ _ => rfl) (fun e' _ he' => ?_), ?_, ?_⟩, heap_set_by hT hK w b _, by simp⟩
    · unfold Instr.mapUpdate
      simp only [Sem.run_bind, run_underlying hT, hg, Result.andThen_ok, hc, h2]
      rw [hkey]
      simp only [Option.getD_some, hk, Result.andThen_ok, hset]
    · rw [he'] at hkey
      simpa using hkey.symm
    · apply List.ext_getElem?
      intro i
      have hi := congrArg (fun m => m[i]?) hl
      simp only [ekv, kvs, List.getElem?_map, Array.getElem?_toList, Array.getElem?_modify, List.getElem?_set] at hi ⊢
      by_cases hij : j = i
      · subst hij
        have hjl : j < l.length := (List.getElem?_eq_some_iff.1 h5).1
        rw [← Array.getElem?_toList, h3]
        simp [hjl]
      · simpa [hij] using hi
    · exact (set_perm1 hn h5 v).trans pp

/-- delete(m, k) -/
theorem Files.del (h : Files w b S) (ty kt : TypeId) : ∃ w', (Builtin.delete_ #[T, kt] ty #[.map (some b), tv p]).run P w = .ok (.tuple #[]) w' ∧ Files w' b (fDel S p) ∧ w.grownBy w' (some b) ∧ w'.heap.size = w.heap.size := by
  have hlt := h.lt
  obtain ⟨es, clock, l, hb, hs, hl, hp, h⟩ := Files.find hT hK p h
  have hn := kv_nodup hs hl
  have hg := MapKept.run_getObj_map (P := P) hb
  have hc := fun em => MapKept.run_checkKey (w := w) hK (k := tv p) trivial em 9999
  have hset := fun o => MapKept.run_setObj_map (P := P) o hb
  have hat := fun o : Obj => (MapKept.heap_set (o' := o) hb).1
  rcases h with ⟨h1, h2, h3⟩ | ⟨j, e, v0, h1, h2, h3, h4, h5⟩
  · refine ⟨_, ?_, ⟨es, clock, l, hat _, hs, hl, ?_⟩, heap_set_by hT hK w b _, by simp⟩
    · unfold Builtin.delete_
      simp only [List.getElem?_toArray, List.getElem?_cons_zero, List.getElem?_cons_succ]
      simp only [Sem.run_bind, run_underlying hT, hg, Result.andThen_ok, hc, h2, hset, Sem.run_pure]
    · rw [fDel_none h1]; exact hp
  · have hj : j < es.size := by
      have := (List.getElem?_eq_some_iff.1 h3).1
      simpa using this
    have he : (es.eraseIdxIfInBounds j).toList = es.toList.eraseIdx j := by
      unfold Array.eraseIdxIfInBounds
      rw [dif_pos hj]
      simp
    refine ⟨_, ?_, ⟨es.eraseIdxIfInBounds j, clock, l.eraseIdx j, hat _, MapKept.stamped_erase hs j, ?_, ?_⟩, heap_set_by hT hK w b _, by simp⟩
    · unfold Builtin.delete_
      simp only [List.getElem?_toArray, List.getElem?_cons_zero, List.getElem?_cons_succ]
      simp only [Sem.run_bind, run_underlying hT, hg, Result.andThen_ok, hc, h2, hset, Sem.run_pure]
    · simp only [ekv, kvs, he] at hl ⊢
      rw [ChangeMaps.map_eraseIdx, hl, ChangeMaps.map_eraseIdx]
    · rw [erase_del hn h5]; exact del_perm hp p
end
end Go.Proofs.YtbcldknecdbemaaGreatDoor

/-
  path.pieces: what stands between each / of a text. Condition: at most a million bytes.
-/
namespace Go.Proofs.YtbcldknecdbemaaGreatDoor
open Go.RowKit
set_option linter.unusedVariables false
set_option maxRecDepth 20000

theorem str_info : (Tryz.prog.info? 9).map (fun i => (i.zero, i.size, i.bytes)) = some (some (.string ⟨#[]⟩), 1, 16) := by kernel_rfl

/-- Texts that lie there: a []string. -/
structure Texts (w : World) (A : Option Addr) (n c : Nat) (ls : List (List UInt8)) : Prop where
  len : ls.length = n
  le : n ≤ c
  cap : c ≤ maxLen
  lies : Lies w w.heap.size A (ls.map tv)
  plain : A = none ∨ ∃ b o, A = some ⟨b, o, none⟩
theorem Texts.later {w w' : World} {A : Option Addr} {n c : Nat} {ls : List (List UInt8)} (h : Texts w A n c ls) (hg : Grows w w') : Texts w' A n c ls := ⟨h.len, h.le, h.cap, h.lies.later hg, h.plain⟩
theorem Texts.of_own {w : World} {base : Nat} {v : Value} {n : Nat} {ls : List (List UInt8)} (hl : ls.length = n) (h : w.ownsRow base 9 1 v n (ls.map tv)) : ∃ A c, v = .slice A n c ∧ Texts w A n c ls := by
  have h0 := h
  obtain ⟨A, c, rfl, hc⟩ := own_form h
  refine ⟨A, c, rfl, hl, hc, ?_, Lies.of_own h0, ?_⟩
  · rcases h0.2 with ⟨e, _⟩ | ⟨g, cap, cur, e, _, _, _, h4, _⟩
    · injection e with _ _ e; unfold maxLen; omega
    · injection e with _ _ e; subst e; first | exact h4 | omega
  · rcases h0.2 with ⟨e, _⟩ | ⟨g, cap, cur, e, _⟩
    · injection e with e; exact .inl e
    · injection e with e; exact .inr ⟨g, 0, e⟩
theorem own_base {w : World} {base base' : Nat} {e : TypeId} {size : Nat} {v : Value} {n : Nat} {xs : List Value} (h : w.ownsRow base e size v n xs) (hb : base' ≤ base) : w.ownsRow base' e size v n xs := by
  obtain ⟨h1, h2⟩ := h
  refine ⟨h1, ?_⟩
  rcases h2 with h2 | ⟨g, cap, cur, a, b, c⟩
  · exact .inl h2
  · exact .inr ⟨g, cap, cur, a, by omega, c⟩
theorem tcut (l : List UInt8) (a b : Nat) : (⟨l.toArray⟩ : ByteArray).extract a b = ⟨((l.drop a).take (b - a)).toArray⟩ := ByteArray.extract_mk l a b
theorem run_tcut (l : List UInt8) (a b : Nat) (hab : a ≤ b) (hb : b ≤ l.length) (x y : Int) (hx : x = (a : Int)) (hy : y = (b : Int)) (w : World) :
    (Instr.slice 9 (tv l) (some (.int .i64 x)) (some (.int .i64 y)) none).run Tryz.prog w = .ok (tv ((l.drop a).take (b - a))) w := by
  subst hx hy
  rw [run_slice_string w 9 _ .i64 .i64 (a : Int) (b : Int) Tryz.underlying9 (by omega) (by omega) (by rw [size_mk]; omega), tcut]
  rfl
theorem run_tfrom (l : List UInt8) (a : Nat) (ha : a ≤ l.length) (x : Int) (hx : x = (a : Int)) (w : World) :
    (Instr.slice 9 (tv l) (some (.int .i64 x)) none none).run Tryz.prog w = .ok (tv (l.drop a)) w := by
  subst hx
  rw [run_slice_string_from_if w 9 _ .i64 (a : Int) Tryz.underlying9, if_pos ⟨by omega, by rw [size_mk]; omega⟩, tcut, size_mk]
  rw [List.take_of_length_le (by simp)]
  rfl

theorem drop_step (l : List UInt8) (p k : Nat) : l.drop p = (l.drop p).take k ++ l.drop (p + k) := by
  rw [← List.drop_drop, List.take_append_drop]
theorem seg_more (l : List UInt8) (b p k : Nat) (hb : b ≤ p) : (l.drop b).take (p - b) ++ (l.drop p).take k = (l.drop b).take (p + k - b) := by
  rw [show p + k - b = (p - b) + k by omega, List.take_add, List.drop_drop, show b + (p - b) = p by omega]
theorem pieces_round {l : List UInt8} {b p r k : Nat} (hb : b ≤ p) (h : Step l p r k) (hr : r ≠ 47) :
    piecesGo (l.drop p) ((l.drop b).take (p - b)) = piecesGo (l.drop (p + k)) ((l.drop b).take (p + k - b)) := by
  rw [← seg_more l b p k hb]
  conv => lhs; rw [drop_step l p k]
  exact pieces_run (fun e => h.free (c := 47) (by omega) hr 47 e rfl) _ _
theorem pieces_here {l : List UInt8} {b p r k : Nat} (h : Step l p r k) (hr : r = 47) :
    k = 1 ∧ piecesGo (l.drop p) ((l.drop b).take (p - b)) = (l.drop b).take (p - b) :: piecesGo (l.drop (p + 1)) ((l.drop (p + 1)).take (p + 1 - (p + 1))) := by
  obtain ⟨h1, x, hx, hc⟩ := h.here (c := 47) (by omega) hr
  refine ⟨h1, ?_⟩
  have e : x = 47 := UInt8.toNat_inj.1 hc
  subst e
  have hlt : p < l.length := (List.getElem?_eq_some_iff.1 hx).1
  rw [List.drop_eq_getElem_cons hlt, (List.getElem?_eq_some_iff.1 hx).2, piecesGo, if_pos rfl, Nat.sub_self, List.take_zero]

end Go.Proofs.YtbcldknecdbemaaGreatDoor

/-
  strings.IndexByte at the byte 0, strings.HasPrefix, strings.Clone (off the library's shelf), maps.Clone at texts.
-/
namespace Go.Proofs.YtbcldknecdbemaaGreatDoor
open Go.RowKit
set_option linter.unusedVariables false
set_option maxRecDepth 20000

theorem zero_all (l : Byts) : decide (Lib.indexByte l 0 < 0) = l.all (fun c => c != 0) := by
  induction l with
  | nil => rfl
  | cons b l ih =>
    have hge := Lib.indexByte_ge l 0
    rw [Lib.indexByte, List.all_cons, ← ih]
    by_cases hb : b = 0
    · subst hb; simp
    · have h1 : (b == 0) = false := by simpa using hb
      have h2 : (b != 0) = true := by simpa using hb
      rw [h1, h2, Bool.true_and]
      by_cases hm : Lib.indexByte l 0 = -1
      · simp [hm]
      · have h3 : (Lib.indexByte l 0 == -1) = false := by simpa using hm
        simp only [h3, Bool.false_eq_true, if_false]
        rw [Bool.eq_iff_iff]
        simp only [decide_eq_true_eq]
        omega
theorem ixb_run (l : Byts) (w : World) : (callFunc 178 #[tv l, .int .u8 0]).run Tryz.prog w = .ok (.value (.int .i64 (Lib.indexByte l 0))) w := by
  rw [run_callFunc_extern Tryz.func178 (by kernel_rfl) (by kernel_rfl) (by kernel_rfl) (e := Extern.BytealgIndexByte.indexByte) (by kernel_rfl), Lib.run_indexByteString]
  rfl
theorem ixb1_any (l : Byts) (w : World) : Calls Tryz.prog 165 #[tv l, .int .u8 0] w fun e w' => e = .returned (.int .i64 (Lib.indexByte l 0)) ∧ w' = w := by
  have hr := ixb_run l
  generalize Lib.indexByte l 0 = z at *
  go_enter Tryz.func165, Tryz.ntmps165
  go_wp2
  go_ret
  exact ⟨rfl, rfl⟩
theorem ixb0_any (l : Byts) (w : World) : Calls Tryz.prog 135 #[tv l, .int .u8 0] w fun e w' => e = .returned (.int .i64 (Lib.indexByte l 0)) ∧ w' = w := by
  have hC := ixb1_any l w
  generalize Lib.indexByte l 0 = z at *
  go_enter Tryz.func135, Tryz.ntmps135
  go_wp2_with fail
  refine hC.mono ?_
  rintro e w' ⟨rfl, rfl⟩
  go_wp2
  go_ret
  exact ⟨rfl, rfl⟩

theorem run_tto (l : Byts) (a : Nat) (ha : a ≤ l.length) (x : Int) (hx : x = (a : Int)) (w : World) :
    (Instr.slice 9 (tv l) none (some (.int .i64 x)) none).run Tryz.prog w = .ok (tv (l.take a)) w := by
  subst hx
  rw [run_slice_string_to_if w 9 _ .i64 (a : Int) Tryz.underlying9, if_pos ⟨by omega, by rw [size_mk]; omega⟩, Int.toNat_natCast, tcut]
  simp
/-- Does s begin with p? -/
def prefB (s p : Byts) : Bool := s.take p.length == p
theorem hpre1_any (s p : Byts) (w : World) : Calls Tryz.prog 115 #[tv s, tv p] w fun e w' => e = .returned (.bool (prefB s p)) ∧ w' = w := by
  have h1 := size_mk s
  have h2 := size_mk p
  by_cases hl : p.length ≤ s.length
  · have d1 : decide ((s.length : Int) ≥ (p.length : Int)) = true := by simp; omega
    have hto := fun u => run_tto s p.length hl (p.length : Int) rfl u
    have he : ∀ t, binOp .eql t (tv (s.take p.length)) (tv p) = (pure (.bool (prefB s p)) : Sem Value) := fun t => run_teq (P := Tryz.prog) t _ _
    generalize prefB s p = z at *
    generalize s.take p.length = q at *
    go_enter Tryz.func115, Tryz.ntmps115
    go_wp2
    go_ret
    exact ⟨rfl, rfl⟩
  · have d1 : decide ((s.length : Int) ≥ (p.length : Int)) = false := by simp; omega
    have hz : prefB s p = false := by
      unfold prefB
      have : s.take p.length ≠ p := fun e => by
        have := congrArg List.length e
        rw [List.length_take] at this
        omega
      simpa using this
    rw [hz]
    go_enter Tryz.func115, Tryz.ntmps115
    go_wp2
    go_ret
    exact ⟨rfl, rfl⟩
theorem hpre_any (s p : Byts) (w : World) : Calls Tryz.prog 69 #[tv s, tv p] w fun e w' => e = .returned (.bool (prefB s p)) ∧ w' = w := by
  have hC := hpre1_any s p w
  generalize prefB s p = z at *
  go_enter Tryz.func69, Tryz.ntmps69
  go_wp2_with fail
  refine hC.mono ?_
  rintro e w' ⟨rfl, rfl⟩
  go_wp2
  go_ret
  exact ⟨rfl, rfl⟩

def clnRen : Go.Shelf.Ren := ⟨fun | 316 => 126 | n => n, fun | 0 => 0 | 3 => 3 | 4 => 4 | 5 => 5 | 9 => 9 | 37 => 27 | 127 => 204 | n => n, fun | n => n⟩
theorem clnLays : Go.Proofs.LaysM.n316 Tryz.prog clnRen := {
  mixed := by kernel_rfl
  f316 := Tryz.func126.trans (congrArg some (by kernel_rfl))
  t0 := Tryz.underlying0
  a0 := Tryz.isAgg0
  z0 := Tryz.sizeOf0
  v0 := Tryz.zeroValue0
  t3 := Tryz.underlying3
  a3 := Tryz.isAgg3
  z3 := Tryz.sizeOf3
  v3 := Tryz.zeroValue3
  t4 := Tryz.underlying4
  a4 := Tryz.isAgg4
  z4 := Tryz.sizeOf4
  v4 := Tryz.zeroValue4
  t9 := Tryz.underlying9
  a9 := Tryz.isAgg9
  z9 := Tryz.sizeOf9
  v9 := Tryz.zeroValue9
  t37 := Tryz.underlying27
  a37 := Tryz.isAgg27
  z37 := Tryz.sizeOf27
  v37 := Tryz.zeroValue27
  t127 := Tryz.underlying204
  a127 := Tryz.isAgg204
  z127 := Tryz.sizeOf204
  v127 := Tryz.zeroValue204
  t5 := Tryz.underlying5
  a5 := Tryz.isAgg5
  z5 := Tryz.sizeOf5
  v5 := Tryz.zeroValue5
  i0 := by kernel_rfl
  i3 := by kernel_rfl
  i4 := by kernel_rfl
  i5 := by kernel_rfl
  i9 := by kernel_rfl
  i37 := by kernel_rfl
  i127 := by kernel_rfl }
theorem tclone_any (s : Byts) (w : World) (hl : s.length ≤ 100000000) : Calls Tryz.prog 82 #[tv s] w fun e w' => e = .returned (tv s) ∧ Grows w w' := by
  have hC := Any.stringslite_Clone clnLays ⟨s.toArray⟩ w (by rw [size_mk]; omega)
  go_enter Tryz.func82, Tryz.ntmps82
  go_wp2_with fail
  refine hC.mono ?_
  rintro e w' ⟨rfl, hB⟩
  go_wp2
  go_ret
  exact ⟨rfl, hB⟩

theorem mclone_any (b : Nat) (S : Fls) (w : World) (h : Files w b S) : Calls Tryz.prog 109 #[.map (some b)] w fun e w' => e = .returned (.map (some w.heap.size)) ∧ Files w' w.heap.size S ∧ Grows w w' := by
  obtain ⟨es, clock, l, hb, hs, hl, hp⟩ := h
  have h1 := fun u => run_eql_map_nil_sl (P := Tryz.prog) u 103 _ _ (some b) Tryz.underlying103
  have h2 : (callFunc 145 #[.iface 103 (.map (some b))]).run Tryz.prog w = .ok (.value (.iface 103 (.map (some w.heap.size)))) (w.alloc (.map es clock)) := by
    rw [run_callFunc_extern Tryz.func145 (by kernel_rfl) (by kernel_rfl) (by kernel_rfl) (e := Extern.MapsClone.clone) (by kernel_rfl), run_maps_clone_sl w 103 hb]
    simp only [Result.andThen]
  have h3 := fun v u => run_typeAssert_map_sl (P := Tryz.prog) u 103 20 _ _ v Tryz.underlying103
  go_enter Tryz.func109, Tryz.ntmps109
  go_wp2
  go_ret
  exact ⟨rfl, ⟨es, clock, l, heap_alloc_new w _, hs, hl, hp⟩, grows_alloc _ _⟩
end Go.Proofs.YtbcldknecdbemaaGreatDoor

/-
  slices.Sort at texts, off the library's shelf: texts of the call's own, sorted.
-/
namespace Go.Proofs.YtbcldknecdbemaaGreatDoor
open Go.RowKit
set_option linter.unusedVariables false
set_option maxRecDepth 20000

theorem lt_cmp : ∀ x y : Byts, x < y ↔ cmpB x y = -1
  | [], [] => by simp [cmpB]
  | [], _ :: _ => by simp [cmpB]
  | _ :: _, [] => by simp [cmpB]
  | a :: x, b :: y => by
    rw [List.cons_lt_cons_iff, lt_cmp x y, cmpB, UInt8.lt_iff_toNat_lt, ← UInt8.toNat_inj]
    by_cases h1 : a.toNat < b.toNat
    · simp [h1]
    · by_cases h2 : b.toNat < a.toNat
      · rw [if_neg h1, if_pos h2]
        constructor
        · intro h; omega
        · intro h; omega
      · rw [if_neg h1, if_neg h2]
        constructor
        · rintro (h | h)
          · omega
          · exact h.2
        · intro h; exact .inr ⟨by omega, h⟩
theorem le_cmp (x y : Byts) : x ≤ y ↔ cmpB x y ≤ 0 := by
  rw [← List.not_lt, lt_cmp]
  have h1 := cmpB_val x y
  have h2 := cmpB_anti x y
  omega
theorem sort_is {ls ts : List Byts} (hp : ls.Perm ts) (hs : ts.Pairwise (fun x y => cmpB x y = -1)) : ls.mergeSort (fun x y => decide (x ≤ y)) = ts := by
  have tr : ∀ a b c : Byts, decide (a ≤ b) = true → decide (b ≤ c) = true → decide (a ≤ c) = true := fun a b c h1 h2 => by simp only [decide_eq_true_eq] at *; exact List.le_trans h1 h2
  have to : ∀ a b : Byts, (decide (a ≤ b) || decide (b ≤ a)) = true := fun a b => by simp only [Bool.or_eq_true, decide_eq_true_eq]; exact List.le_total a b
  refine List.Perm.eq_of_pairwise (le := fun (a b : Byts) => decide (a ≤ b) = true) (fun a b _ _ h1 h2 => ?_) (List.pairwise_mergeSort tr to ls) (hs.imp fun h => ?_) ((List.mergeSort_perm ls _).trans hp)
  · simp only [decide_eq_true_eq] at h1 h2
    exact List.le_antisymm h1 h2
  · simp only [decide_eq_true_eq, le_cmp]; omega

def sortRen : Go.Shelf.Ren := ⟨fun | 125 => 117 | 128 => 159 | 129 => 160 | 190 => 70 | 258 => 116 | 302 => 150 | 303 => 151 | 304 => 152 | 305 => 153 | 306 => 154 | 307 => 155 | 308 => 156 | 309 => 157 | 310 => 158 | 329 => 171 | 330 => 172 | 333 => 170 | 334 => 173 | 335 => 174 | 336 => 175 | 344 => 180 | n => n, fun | 0 => 0 | 3 => 3 | 4 => 4 | 5 => 5 | 9 => 9 | 31 => 60 | 46 => 157 | 51 => 100 | 53 => 175 | 131 => 200 | 182 => 195 | 183 => 196 | 218 => 230 | 222 => 234 | 228 => 237 | 229 => 179 | n => n, fun | n => n⟩
theorem sortLays : Go.Proofs.Lays.n190 Tryz.prog sortRen := {
  mixed := by kernel_rfl
  f125 := Tryz.func117.trans (congrArg some (by kernel_rfl))
  f128 := Tryz.func159.trans (congrArg some (by kernel_rfl))
  f129 := Tryz.func160.trans (congrArg some (by kernel_rfl))
  f190 := Tryz.func70.trans (congrArg some (by kernel_rfl))
  f258 := Tryz.func116.trans (congrArg some (by kernel_rfl))
  f302 := Tryz.func150.trans (congrArg some (by kernel_rfl))
  f303 := Tryz.func151.trans (congrArg some (by kernel_rfl))
  f304 := Tryz.func152.trans (congrArg some (by kernel_rfl))
  f305 := Tryz.func153.trans (congrArg some (by kernel_rfl))
  f306 := Tryz.func154.trans (congrArg some (by kernel_rfl))
  f307 := Tryz.func155.trans (congrArg some (by kernel_rfl))
  f308 := Tryz.func156.trans (congrArg some (by kernel_rfl))
  f309 := Tryz.func157.trans (congrArg some (by kernel_rfl))
  f310 := Tryz.func158.trans (congrArg some (by kernel_rfl))
  f329 := Tryz.func171.trans (congrArg some (by kernel_rfl))
  f330 := Tryz.func172.trans (congrArg some (by kernel_rfl))
  f333 := Tryz.func170.trans (congrArg some (by kernel_rfl))
  f334 := Tryz.func173.trans (congrArg some (by kernel_rfl))
  f335 := Tryz.func174.trans (congrArg some (by kernel_rfl))
  f336 := Tryz.func175.trans (congrArg some (by kernel_rfl))
  f344 := Tryz.func180.trans (congrArg some (by kernel_rfl))
  t0 := Tryz.underlying0
  a0 := Tryz.isAgg0
  z0 := Tryz.sizeOf0
  v0 := Tryz.zeroValue0
  t3 := Tryz.underlying3
  a3 := Tryz.isAgg3
  z3 := Tryz.sizeOf3
  v3 := Tryz.zeroValue3
  t4 := Tryz.underlying4
  a4 := Tryz.isAgg4
  z4 := Tryz.sizeOf4
  v4 := Tryz.zeroValue4
  t5 := Tryz.underlying5
  a5 := Tryz.isAgg5
  z5 := Tryz.sizeOf5
  v5 := Tryz.zeroValue5
  t9 := Tryz.underlying9
  a9 := Tryz.isAgg9
  z9 := Tryz.sizeOf9
  v9 := Tryz.zeroValue9
  t31 := Tryz.underlying60
  a31 := Tryz.isAgg60
  z31 := Tryz.sizeOf60
  v31 := Tryz.zeroValue60
  t46 := Tryz.underlying157
  a46 := Tryz.isAgg157
  z46 := Tryz.sizeOf157
  v46 := Tryz.zeroValue157
  t51 := Tryz.underlying100
  a51 := Tryz.isAgg100
  z51 := Tryz.sizeOf100
  v51 := Tryz.zeroValue100
  t53 := Tryz.underlying175
  a53 := Tryz.isAgg175
  z53 := Tryz.sizeOf175
  v53 := Tryz.zeroValue175
  t131 := Tryz.underlying200
  a131 := Tryz.isAgg200
  z131 := Tryz.sizeOf200
  v131 := Tryz.zeroValue200
  t182 := Tryz.underlying195
  a182 := Tryz.isAgg195
  z182 := Tryz.sizeOf195
  v182 := Tryz.zeroValue195
  t183 := Tryz.underlying196
  a183 := Tryz.isAgg196
  z183 := Tryz.sizeOf196
  v183 := Tryz.zeroValue196
  t218 := Tryz.underlying230
  a218 := Tryz.isAgg230
  z218 := Tryz.sizeOf230
  v218 := Tryz.zeroValue230
  t222 := Tryz.underlying234
  a222 := Tryz.isAgg234
  z222 := Tryz.sizeOf234
  v222 := Tryz.zeroValue234
  t228 := Tryz.underlying237
  a228 := Tryz.isAgg237
  z228 := Tryz.sizeOf237
  v228 := Tryz.zeroValue237
  t229 := Tryz.underlying179
  a229 := Tryz.isAgg179
  z229 := Tryz.sizeOf179
  v229 := Tryz.zeroValue179 }
theorem ins0_any (w : World) : Calls Tryz.prog 150 #[.slice none 0 0, .int .i64 0, .int .i64 0] w fun e w' => e = .returned (.tuple #[]) ∧ w' = w := by
  go_enter Tryz.func150, Tryz.ntmps150
  go_wp2_with fail
  go_loopg [6] 0 (fun k v wr => v = .int .i64 1 ∧ wr = w)
  case atStart => exact ⟨rfl, rfl⟩
  case round =>
    obtain ⟨rfl, rfl⟩ := hrel
    go_wp2_with fail
    go_end0
    exact ⟨rfl, rfl⟩
theorem pdq0_any (z : Int) (w : World) : Calls Tryz.prog 116 #[.slice none 0 0, .int .i64 0, .int .i64 0, .int .i64 z] w fun e w' => e = .returned (.tuple #[]) ∧ w' = w := by
  go_enter Tryz.func116, Tryz.ntmps116
  go_wp2_with fail
  go_loopg [1, 2] 0 (fun k v1 v2 wr => v1 = .int .i64 0 ∧ v2 = .int .i64 0 ∧ wr = w)
  case atStart => exact ⟨rfl, rfl, rfl⟩
  case round =>
    obtain ⟨rfl, rfl, rfl⟩ := hrel
    go_wp2_with fail
    refine (ins0_any _).mono ?_
    rintro e w2 ⟨rfl, rfl⟩
    go_wp2_with fail
    (try simp only [Exit.inBlock, Exit.then])
    refine bodyPost_ret (results_none rfl _ _ _) rfl ?_
    exact ⟨rfl, rfl⟩
theorem len64_0 (w : World) : Calls Tryz.prog 160 #[.int .u64 0] w fun e w' => e = .returned (.int .i64 0) ∧ w' = w := by
  have h0 : wrap64 (wrap64 (Lib.len8 0)) = 0 := by kernel_rfl
  go_enter Tryz.func160, Tryz.ntmps160
  go_wp2
  go_ret
  exact ⟨by simp [h0], rfl⟩
theorem blen_0 (w : World) : Calls Tryz.prog 117 #[.int .u64 0] w fun e w' => e = .returned (.int .i64 0) ∧ w' = w := by
  go_enter Tryz.func117, Tryz.ntmps117
  go_wp2_with fail
  refine (len64_0 _).mono ?_
  rintro e w2 ⟨rfl, rfl⟩
  go_wp2
  go_ret
  exact ⟨rfl, rfl⟩
theorem sort0_any (w : World) : Calls Tryz.prog 70 #[.slice none 0 0] w fun e w' => e = .returned (.tuple #[]) ∧ w' = w := by
  go_enter Tryz.func70, Tryz.ntmps70
  go_wp2_with fail
  refine (blen_0 _).mono ?_
  rintro e w2 ⟨rfl, rfl⟩
  go_wp2_with fail
  refine (pdq0_any _ _).mono ?_
  rintro e w2 ⟨rfl, rfl⟩
  go_wp2
  go_end0
  exact ⟨rfl, rfl⟩
/-- slices.Sort of texts of the call's own. -/
theorem sort_any {base n : Nat} {v : Value} {ls ts : List Byts} (w : World) (hl : ls.length = n) (hn : n ≤ 1000000) (h : w.ownsRow base 9 1 v n (ls.map tv)) (hp : ls.Perm ts) (hs : ts.Pairwise (fun x y => cmpB x y = -1)) :
    Calls Tryz.prog 70 #[v] w fun e w' => e = .returned (.tuple #[]) ∧ w'.ownsRow base 9 1 v n (ts.map tv) ∧ w.grownBy w' v.ownBlock := by
  have hlt : ts.length = n := by rw [← hp.length_eq]; exact hl
  rcases h.2 with ⟨rfl, h0⟩ | ⟨g, cap, cur, rfl, hbase, hb, h1, h2, h3, h4⟩
  · subst h0
    refine (sort0_any w).mono ?_
    rintro e w' ⟨rfl, rfl⟩
    obtain rfl : ts = [] := List.eq_nil_of_length_eq_zero hlt
    exact ⟨rfl, World.ownsRow_nil _ _ _ _, ⟨rfl, rfl, rfl, Nat.le_refl _, fun _ _ _ => rfl⟩⟩
  · subst hl
    have hH := holds_of_block (ss := ls) hb (by simpa using h4)
    have hc := Any.slices_Sort_string sortLays g 0 cap ls w hH (Array.getElem?_eq_some_iff.1 hb).1 (by omega)
    rw [sort_is hp hs] at hc
    refine hc.mono ?_
    rintro e w' ⟨rfl, nn, os, rfl⟩
    exact ⟨rfl, ownsRow_sorted hlt hbase hb h1 h2 h3, grownBy_sorted _⟩
end Go.Proofs.YtbcldknecdbemaaGreatDoor
