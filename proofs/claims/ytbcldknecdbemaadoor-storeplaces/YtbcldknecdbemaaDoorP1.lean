/-
  Contracts, joined (PathM DkM DkN Base Sched RFew RFil RAro Arr).
-/
import Derived.WalkKit
import Derived.Maps.AppendAt
import Derived.Laws.BytesArg
import Derived.Deep.Draws
import Derived.Lib.ConvBytes
import Derived.Deep.RegionHeld3
import Derived.Test.YtbcldknecdbemaaDoorRows
import Derived.Outline
import Derived.Lib.Hide
import Derived.Deep.MidRow
import Derived.Laws.ResultCell
import Derived.ChangeKeysEq
import Derived.ProofKit
import Derived.OpenShut

/-
  Names, paths and how they stand, as functions of lists (of no program).
-/
namespace Go.Proofs.YtbcldknecdbemaaDoor
set_option linter.unusedVariables false
set_option maxRecDepth 20000

/-- What stands between the bytes 47; s: what was gone through of the piece at hand. -/
def piecesGo : List UInt8 → List UInt8 → List (List UInt8)
  | [], s => [s]
  | c :: r, s => if c = 47 then s :: piecesGo r [] else piecesGo r (s ++ [c])
def piecesOf (p : List UInt8) : List (List UInt8) := if p = [] then [] else piecesGo p []
def nameB (s : List UInt8) : Bool := s.all (fun c => c != 0 && c != 47) && decide (0 < s.length) && decide (s.length < 25) && s != [46] && s != [46, 46]
def joinOf : List (List UInt8) → List UInt8
  | [] => []
  | x :: r => match r with
    | [] => x
    | _ :: _ => x ++ 47 :: joinOf r
def splitOf (p : List UInt8) : List (List UInt8) × Nat := if (piecesOf p).all nameB = true then (if 6 < (piecesOf p).length then ([], 3) else (piecesOf p, 0)) else ([], 2)

theorem piecesGo_ne (p s : List UInt8) : piecesGo p s ≠ [] := by
  induction p generalizing s with
  | nil => simp [piecesGo]
  | cons c r ih => unfold piecesGo; split <;> simp [ih]
theorem pieces_run {x : List UInt8} (h : (47 : UInt8) ∉ x) (r s : List UInt8) : piecesGo (x ++ r) s = piecesGo r (s ++ x) := by
  induction x generalizing s with
  | nil => simp
  | cons c x ih =>
    have hc : c ≠ 47 := fun e => h (by simp [e])
    have hx : (47 : UInt8) ∉ x := fun e => h (by simp [e])
    rw [List.cons_append, piecesGo, if_neg hc, ih hx]
    simp
theorem pieces_cut {x : List UInt8} (h : (47 : UInt8) ∉ x) (r s : List UInt8) : piecesGo (x ++ 47 :: r) s = (s ++ x) :: piecesGo r [] := by
  rw [pieces_run h, piecesGo, if_pos rfl]
theorem join_cons (x y : List UInt8) (r : List (List UInt8)) : joinOf (x :: y :: r) = x ++ 47 :: joinOf (y :: r) := rfl
theorem pieces_joinGo : ∀ (l : List (List UInt8)) (x s : List UInt8), (∀ y ∈ x :: l, (47 : UInt8) ∉ y) → piecesGo (joinOf (x :: l)) s = (s ++ x) :: l
  | [], x, s, h => by
    show piecesGo x s = _
    have := pieces_run (h x (by simp)) [] s
    rw [List.append_nil] at this
    rw [this, piecesGo]
  | y :: r, x, s, h => by
    rw [join_cons, pieces_cut (h x (by simp)), pieces_joinGo r y [] (fun z hz => h z (by simp at hz ⊢; exact .inr hz)), List.nil_append]
theorem join_nil {l : List (List UInt8)} (h : joinOf l = []) : l = [] ∨ l = [[]] := by
  match l with
  | [] => exact .inl rfl
  | [x] => exact .inr (by rw [show x = [] from h])
  | x :: y :: r => rw [join_cons] at h; simp at h
/-- What is joined of pieces is cut into them again. -/
theorem pieces_join {l : List (List UInt8)} (h : ∀ y ∈ l, (47 : UInt8) ∉ y) (hn : l ≠ [[]]) : piecesOf (joinOf l) = l := by
  match l with
  | [] => rfl
  | x :: r =>
    unfold piecesOf
    rw [if_neg (fun e => by rcases join_nil e with h1 | h1; cases h1; exact hn h1), pieces_joinGo r x [] h, List.nil_append]
theorem joinGo : ∀ (p s : List UInt8), joinOf (piecesGo p s) = s ++ p
  | [], s => by simp [piecesGo, joinOf]
  | c :: r, s => by
    unfold piecesGo
    split
    · rename_i hc
      subst hc
      have hne := piecesGo_ne r []
      have ih := joinGo r []
      match hq : piecesGo r [], hne with
      | y :: t, _ =>
        rw [hq] at ih
        rw [join_cons, ih]
        simp
    · rw [joinGo r (s ++ [c])]
      simp
/-- A text is what is joined of its pieces. -/
theorem join_pieces (p : List UInt8) : joinOf (piecesOf p) = p := by
  unfold piecesOf
  split
  · rename_i h; subst h; rfl
  · rw [joinGo, List.nil_append]
theorem pieces_inj {a b : List UInt8} (h : piecesOf a = piecesOf b) : a = b := by rw [← join_pieces a, h, join_pieces]
theorem pieces_free : ∀ (p s : List UInt8), (47 : UInt8) ∉ s → ∀ y ∈ piecesGo p s, (47 : UInt8) ∉ y
  | [], s, hs, y, hy => by simp [piecesGo] at hy; rw [hy]; exact hs
  | c :: r, s, hs, y, hy => by
    unfold piecesGo at hy
    split at hy
    · rcases List.mem_cons.1 hy with rfl | hy
      · exact hs
      · exact pieces_free r [] (by simp) y hy
    · rename_i hc
      exact pieces_free r (s ++ [c]) (by simp; exact ⟨hs, fun e => hc e.symm⟩) y hy
theorem name_free {s : List UInt8} (h : nameB s = true) : (47 : UInt8) ∉ s ∧ s ≠ [] := by
  unfold nameB at h
  simp only [Bool.and_eq_true, List.all_eq_true, decide_eq_true_eq, bne_iff_ne] at h
  obtain ⟨⟨⟨⟨h1, h2⟩, _⟩, _⟩, _⟩ := h
  exact ⟨fun e => (h1 47 e).2 rfl, by rintro rfl; simp at h2⟩
/-- What is joined of names is split into them again. -/
theorem split_join {l : List (List UInt8)} (h : ∀ s ∈ l, nameB s = true) (h6 : l.length ≤ 6) : splitOf (joinOf l) = (l, 0) := by
  have hp : piecesOf (joinOf l) = l := pieces_join (fun y hy => (name_free (h y hy)).1) (fun e => by subst e; exact (name_free (h [] (by simp))).2 rfl)
  unfold splitOf
  rw [hp, if_pos (List.all_eq_true.2 h), if_neg (by omega)]

/-- Bytes, one behind the other. -/
def cmpB : List UInt8 → List UInt8 → Int
  | [], [] => 0
  | [], _ :: _ => -1
  | _ :: _, [] => 1
  | a :: x, b :: y => if a.toNat < b.toNat then -1 else if b.toNat < a.toNat then 1 else cmpB x y
def cmpL : List (List UInt8) → List (List UInt8) → Int
  | [], [] => 0
  | [], _ :: _ => -1
  | _ :: _, [] => 1
  | a :: x, b :: y => if cmpB a b = 0 then cmpL x y else cmpB a b
def compareOf (a b : List UInt8) : Int := cmpL (piecesOf a) (piecesOf b)
def underOf (p d : List UInt8) : Bool := decide ((piecesOf d).length < (piecesOf p).length) && (piecesOf p).take (piecesOf d).length == piecesOf d
def parentOf (p : List UInt8) : List UInt8 := joinOf (piecesOf p).dropLast
def baseOf (p : List UInt8) : List UInt8 := (piecesOf p).getLastD []

theorem cmpB_val (x y : List UInt8) : cmpB x y = -1 ∨ cmpB x y = 0 ∨ cmpB x y = 1 := by
  induction x generalizing y with
  | nil => cases y <;> simp [cmpB]
  | cons a x ih =>
    cases y with
    | nil => simp [cmpB]
    | cons b y =>
      unfold cmpB
      split
      · simp
      · split
        · simp
        · exact ih y
theorem cmpB_anti (x y : List UInt8) : cmpB y x = - cmpB x y := by
  induction x generalizing y with
  | nil => cases y <;> simp [cmpB]
  | cons a x ih =>
    cases y with
    | nil => simp [cmpB]
    | cons b y =>
      unfold cmpB
      by_cases h1 : a.toNat < b.toNat
      · rw [if_neg (by omega), if_pos h1, if_pos h1]; rfl
      · by_cases h2 : b.toNat < a.toNat
        · rw [if_pos h2, if_neg h1, if_pos h2]
        · rw [if_neg h2, if_neg h1, if_neg h1, if_neg h2, ih]
theorem cmpB_eq (x y : List UInt8) : cmpB x y = 0 ↔ x = y := by
  induction x generalizing y with
  | nil => cases y <;> simp [cmpB]
  | cons a x ih =>
    cases y with
    | nil => simp [cmpB]
    | cons b y =>
      unfold cmpB
      by_cases h1 : a.toNat < b.toNat
      · rw [if_pos h1]
        exact ⟨fun h => by omega, fun h => by injection h with h _; subst h; omega⟩
      · by_cases h2 : b.toNat < a.toNat
        · rw [if_neg h1, if_pos h2]
          exact ⟨fun h => by omega, fun h => by injection h with h _; subst h; omega⟩
        · obtain rfl : a = b := UInt8.toNat_inj.1 (by omega)
          rw [if_neg h1, if_neg h2, ih]
          simp
theorem cmpB_trans (x y z : List UInt8) (h1 : cmpB x y ≤ 0) (h2 : cmpB y z ≤ 0) : cmpB x z ≤ 0 := by
  induction x generalizing y z with
  | nil => cases z <;> simp [cmpB]
  | cons a x ih =>
    match y, z, h1, h2 with
    | [], _, h1, _ => simp [cmpB] at h1
    | b :: y, [], _, h2 => simp [cmpB] at h2
    | b :: y, c :: z, h1, h2 =>
      unfold cmpB at h1 h2 ⊢
      split at h1
      · split at h2
        · rw [if_pos (by omega)]; omega
        · split at h2
          · omega
          · rw [if_pos (by omega)]; omega
      · split at h1
        · omega
        · split at h2
          · rw [if_pos (by omega)]; omega
          · split at h2
            · omega
            · rw [if_neg (by omega), if_neg (by omega)]
              exact ih y z h1 h2
theorem cmpL_val (x y : List (List UInt8)) : cmpL x y = -1 ∨ cmpL x y = 0 ∨ cmpL x y = 1 := by
  induction x generalizing y with
  | nil => cases y <;> simp [cmpL]
  | cons a x ih =>
    cases y with
    | nil => simp [cmpL]
    | cons b y =>
      unfold cmpL
      split
      · exact ih y
      · exact cmpB_val a b
theorem cmpL_anti (x y : List (List UInt8)) : cmpL y x = - cmpL x y := by
  induction x generalizing y with
  | nil => cases y <;> simp [cmpL]
  | cons a x ih =>
    cases y with
    | nil => simp [cmpL]
    | cons b y =>
      unfold cmpL
      have := cmpB_anti a b
      by_cases h : cmpB a b = 0
      · rw [if_pos (by omega), if_pos h, ih]
      · rw [if_neg (by omega), if_neg h, this]
theorem cmpL_eq (x y : List (List UInt8)) : cmpL x y = 0 ↔ x = y := by
  induction x generalizing y with
  | nil => cases y <;> simp [cmpL]
  | cons a x ih =>
    cases y with
    | nil => simp [cmpL]
    | cons b y =>
      unfold cmpL
      by_cases h : cmpB a b = 0
      · rw [if_pos h, ih, (cmpB_eq a b).1 h]; simp
      · rw [if_neg h]
        exact ⟨fun e => absurd e h, fun e => by injection e with e _; exact absurd ((cmpB_eq a b).2 e) h⟩
theorem cmpL_trans (x y z : List (List UInt8)) (h1 : cmpL x y ≤ 0) (h2 : cmpL y z ≤ 0) : cmpL x z ≤ 0 := by
  induction x generalizing y z with
  | nil => cases z <;> simp [cmpL]
  | cons a x ih =>
    match y, z, h1, h2 with
    | [], _, h1, _ => simp [cmpL] at h1
    | b :: y, [], _, h2 => simp [cmpL] at h2
    | b :: y, c :: z, h1, h2 =>
      unfold cmpL at h1 h2 ⊢
      have t := cmpB_trans a b c
      by_cases e1 : cmpB a b = 0
      · obtain rfl := (cmpB_eq a b).1 e1
        rw [if_pos e1] at h1
        by_cases e2 : cmpB a c = 0
        · rw [if_pos e2] at h2 ⊢; exact ih y z h1 h2
        · rw [if_neg e2] at h2 ⊢; exact h2
      · rw [if_neg e1] at h1
        by_cases e2 : cmpB b c = 0
        · obtain rfl := (cmpB_eq b c).1 e2
          rw [if_neg e1]; exact h1
        · rw [if_neg e2] at h2
          have h3 := t h1 h2
          by_cases e3 : cmpB a c = 0
          · obtain rfl := (cmpB_eq a c).1 e3
            have := cmpB_anti a b
            omega
          · rw [if_neg e3]; exact h3
theorem compare_eq (a b : List UInt8) : compareOf a b = 0 ↔ a = b := ⟨fun h => pieces_inj ((cmpL_eq _ _).1 h), fun h => by subst h; exact (cmpL_eq _ _).2 rfl⟩
theorem compare_anti (a b : List UInt8) : compareOf b a = - compareOf a b := cmpL_anti _ _
theorem compare_trans (a b c : List UInt8) (h1 : compareOf a b ≤ 0) (h2 : compareOf b c ≤ 0) : compareOf a c ≤ 0 := cmpL_trans _ _ _ h1 h2
theorem cmpL_prefix : ∀ (x y : List (List UInt8)), y ≠ [] → cmpL x (x ++ y) = -1
  | [], y, h => by cases y with
    | nil => exact absurd rfl h
    | cons b y => rfl
  | a :: x, y, h => by rw [List.cons_append, cmpL, if_pos ((cmpB_eq a a).2 rfl), cmpL_prefix x y h]
theorem pieces_names {N : List (List UInt8)} (h : ∀ x ∈ N, nameB x = true) : piecesOf (joinOf N) = N :=
  pieces_join (fun y hy => (name_free (h y hy)).1) (fun e => by subst e; exact (name_free (h [] (by simp))).2 rfl)
theorem join_ne {N : List (List UInt8)} (h : ∀ x ∈ N, nameB x = true) (h0 : N ≠ []) : joinOf N ≠ [] := fun e => by
  rcases join_nil e with q | q
  · exact h0 q
  · subst q; exact (name_free (h [] (by simp))).2 rfl
end Go.Proofs.YtbcldknecdbemaaDoor

/-
  Disks, as mathematics (of no program): files by their names, what is written, renamed, removed, and what a restart leaves.
-/
namespace Go.Proofs.YtbcldknecdbemaaDoor
set_option linter.unusedVariables false
set_option maxRecDepth 20000

abbrev Byts := List UInt8
/-- Files: names and bytes. -/
abbrev Fls := List (Byts × Byts)
def fGet (S : Fls) (p : Byts) : Option Byts := (S.find? (fun x => x.1 == p)).map (·.2)
def fDel (S : Fls) (p : Byts) : Fls := S.filter (fun x => !(x.1 == p))
def fPut : Fls → Byts → Byts → Fls
  | [], p, b => [(p, b)]
  | x :: r, p, b => if cmpB x.1 p = -1 then x :: fPut r p b else (p, b) :: fDel (x :: r) p
def fUsed (S : Fls) : Nat := (S.map (fun x => x.2.length)).sum
/-- By their names, each once. -/
def Srt (S : Fls) : Prop := S.Pairwise (fun x y => cmpB x.1 y.1 = -1)

theorem cmpB_lt_ne {x y : Byts} (h : cmpB x y = -1) : x ≠ y := fun e => by
  rw [(cmpB_eq x y).2 e] at h; omega
theorem cmpB_lt_trans {x y z : Byts} (h1 : cmpB x y = -1) (h2 : cmpB y z = -1) : cmpB x z = -1 := by
  have h := cmpB_trans x y z (by omega) (by omega)
  have hv := cmpB_val x z
  have hne : cmpB x z ≠ 0 := fun e => by
    obtain rfl := (cmpB_eq x z).1 e
    have := cmpB_anti x y
    omega
  omega
theorem cmpB_not_lt {x p : Byts} (h : ¬ cmpB x p = -1) (hne : x ≠ p) : cmpB p x = -1 := by
  have hv := cmpB_val x p
  have h0 : cmpB x p ≠ 0 := fun e => hne ((cmpB_eq x p).1 e)
  have := cmpB_anti x p
  omega

section
variable {S : Fls} {p q b : Byts}
theorem fDel_cons (x : Byts × Byts) (r : Fls) (p : Byts) : fDel (x :: r) p = if x.1 = p then fDel r p else x :: fDel r p := by
  by_cases h : x.1 = p
  · simp [fDel, h]
  · simp [fDel, h]
theorem fGet_cons (x : Byts × Byts) (r : Fls) (p : Byts) : fGet (x :: r) p = if x.1 = p then some x.2 else fGet r p := by
  by_cases h : x.1 = p
  · simp [fGet, h]
  · simp [fGet, h]
theorem fGet_none : fGet S p = none ↔ p ∉ S.map (·.1) := by
  induction S with
  | nil => simp [fGet]
  | cons x r ih =>
    rw [fGet_cons, List.map_cons, List.mem_cons]
    by_cases h : x.1 = p
    · simp [h]
    · rw [if_neg h, ih]
      simp [show ¬ p = x.1 from fun e => h e.symm]
theorem fDel_none (h : fGet S p = none) : fDel S p = S := by
  rw [fGet_none] at h
  refine List.filter_eq_self.2 fun x hx => ?_
  have : x.1 ≠ p := fun e => h (e ▸ List.mem_map_of_mem hx)
  simpa using this
theorem fDel_sub (S : Fls) (p : Byts) : (fDel S p).Sublist S := List.filter_sublist
theorem fDel_not (S : Fls) (p : Byts) : p ∉ (fDel S p).map (·.1) := fun h => by
  obtain ⟨x, hx, e⟩ := List.mem_map.1 h
  have := (List.mem_filter.1 hx).2
  simp [e] at this
theorem fPut_perm : ∀ (S : Fls), (fPut S p b).Perm ((p, b) :: fDel S p)
  | [] => List.Perm.refl _
  | x :: r => by
    unfold fPut
    by_cases h : cmpB x.1 p = -1
    · rw [if_pos h, fDel_cons, if_neg (cmpB_lt_ne h)]
      exact ((fPut_perm r).cons x).trans (List.Perm.swap _ _ _)
    · rw [if_neg h]
theorem Srt.sub {S' : Fls} (h : Srt S) (hs : S'.Sublist S) : Srt S' := List.Pairwise.sublist hs h
theorem Srt.del (h : Srt S) (p : Byts) : Srt (fDel S p) := h.sub (fDel_sub S p)
theorem Srt.put : ∀ {S : Fls}, Srt S → ∀ (p b : Byts), Srt (fPut S p b)
  | [], _, p, b => by simp [fPut, Srt]
  | x :: r, h, p, b => by
    obtain ⟨h1, h2⟩ := List.pairwise_cons.1 h
    unfold fPut
    by_cases hx : cmpB x.1 p = -1
    · rw [if_pos hx]
      refine List.pairwise_cons.2 ⟨fun y hy => ?_, Srt.put h2 p b⟩
      rcases List.mem_cons.1 ((fPut_perm r).mem_iff.1 hy) with rfl | hy
      · exact hx
      · exact h1 y ((fDel_sub r p).mem hy)
    · rw [if_neg hx]
      refine List.pairwise_cons.2 ⟨fun y hy => ?_, h.del p⟩
      have hyp : y.1 ≠ p := fun e => fDel_not (x :: r) p (by rw [← e]; exact List.mem_map.2 ⟨y, by rw [e]; exact hy, rfl⟩)
      rcases List.mem_cons.1 ((fDel_sub _ p).mem hy) with rfl | hy'
      · exact cmpB_not_lt hx hyp
      · by_cases e : x.1 = p
        · rw [← e]; exact h1 y hy'
        · exact cmpB_lt_trans (cmpB_not_lt hx e) (h1 y hy')
theorem Srt.nodup (h : Srt S) : (S.map (·.1)).Nodup := by
  rw [List.Nodup, List.pairwise_map]
  exact h.imp fun h => cmpB_lt_ne h
theorem Srt.nil : Srt [] := List.Pairwise.nil
theorem get_perm : ∀ {S S' : Fls}, S.Perm S' → (S.map (·.1)).Nodup → fGet S p = fGet S' p := by
  intro S S' h
  induction h with
  | nil => intro _; rfl
  | cons x h ih => intro hn; rw [fGet_cons, fGet_cons, ih (List.nodup_cons.1 hn).2]
  | swap x y l =>
    intro hn
    simp only [List.map_cons, List.nodup_cons, List.mem_cons, not_or] at hn
    rw [fGet_cons, fGet_cons, fGet_cons, fGet_cons]
    by_cases h1 : y.1 = p
    · have h2 : ¬ x.1 = p := fun e => hn.1.1 (by rw [h1, e])
      simp [h1, h2]
    · simp [h1]
  | trans h1 h2 ih1 ih2 => intro hn; rw [ih1 hn, ih2 ((h1.map _).nodup_iff.1 hn)]
theorem get_del_same (S : Fls) (p : Byts) : fGet (fDel S p) p = none := fGet_none.2 (fDel_not S p)
theorem get_del_other : ∀ (S : Fls) {p q : Byts}, q ≠ p → fGet (fDel S p) q = fGet S q
  | [], _, _, _ => rfl
  | x :: r, p, q, h => by
    rw [fDel_cons]
    by_cases hx : x.1 = p
    · rw [if_pos hx, get_del_other r h, fGet_cons, if_neg (fun e => h (e.symm.trans hx))]
    · rw [if_neg hx, fGet_cons, fGet_cons, get_del_other r h]
theorem put_nodup (h : (S.map (·.1)).Nodup) (p b : Byts) : ((fPut S p b).map (·.1)).Nodup := by
  rw [((fPut_perm S).map _).nodup_iff, List.map_cons, List.nodup_cons]
  exact ⟨fDel_not S p, h.sublist ((fDel_sub S p).map _)⟩
theorem get_put (h : (S.map (·.1)).Nodup) (p b q : Byts) : fGet (fPut S p b) q = if q = p then some b else fGet S q := by
  rw [get_perm (fPut_perm S) (put_nodup h p b), fGet_cons]
  by_cases e : q = p
  · subst e; simp
  · rw [if_neg (fun e1 => e e1.symm), if_neg e, get_del_other S e]
theorem used_perm {S S' : Fls} (h : S.Perm S') : fUsed S = fUsed S' := (h.map _).sum_nat
theorem used_del : ∀ {S : Fls}, (S.map (·.1)).Nodup → ∀ p, fUsed S = fUsed (fDel S p) + ((fGet S p).getD []).length
  | [], _, _ => rfl
  | x :: r, h, p => by
    have h2 := List.nodup_cons.1 h
    rw [fDel_cons, fGet_cons]
    by_cases hx : x.1 = p
    · have : fDel r p = r := fDel_none (fGet_none.2 (hx ▸ h2.1))
      rw [if_pos hx, if_pos hx, this]
      simp [fUsed]; omega
    · rw [if_neg hx, if_neg hx]
      have := used_del h2.2 p
      simp [fUsed] at this ⊢
      omega
theorem used_put (h : (S.map (·.1)).Nodup) (p b : Byts) : fUsed (fPut S p b) = fUsed (fDel S p) + b.length := by
  rw [used_perm (fPut_perm S)]
  simp [fUsed]; omega
/-- Two lists that rise and have the same members are one. -/
theorem srt_perm {S S' : Fls} (h : Srt S) (h' : Srt S') (hp : S.Perm S') : S = S' := by
  refine List.Perm.eq_of_pairwise (le := fun (x y : Byts × Byts) => cmpB x.1 y.1 = -1) (fun a b _ _ h1 h2 => ?_) h h' hp
  have := cmpB_anti a.1 b.1
  omega
end

/-- Changes. -/
inductive Chg where
  | wr (p b : Byts)
  | rn (p q : Byts)
  | rm (p : Byts)
def mkF (S : Fls) : Chg → Fls
  | .wr p b => fPut S p b
  | .rn p q => match fGet S p with
    | none => S
    | some b => fPut (fDel S p) q b
  | .rm p => fDel S p
def halfB (b : Byts) : Byts := b.take (b.length / 2)
/-- What a restart leaves. -/
def rstF : List Chg → List Bool → Fls → Fls
  | [], _, S => S
  | c :: r, ks, S => if ks.headD false = true then
      match c with
      | .wr p b => rstF r ks.tail.tail (fPut S p (if ks.tail.headD false = true then b else halfB b))
      | .rn p q => rstF r ks.tail (mkF S (.rn p q))
      | .rm p => rstF r ks.tail (mkF S (.rm p))
    else rstF r ks.tail S
theorem Srt.mk {S : Fls} (h : Srt S) (c : Chg) : Srt (mkF S c) := by
  cases c with
  | wr p b => exact h.put p b
  | rn p q =>
    show Srt (match fGet S p with | none => S | some b => fPut (fDel S p) q b)
    split
    · exact h
    · exact (h.del p).put q _
  | rm p => exact h.del p
theorem Srt.mks {S : Fls} (h : Srt S) : ∀ (l : List Chg), Srt (l.foldl mkF S) := fun l => by
  induction l generalizing S with
  | nil => exact h
  | cons c r ih => exact ih (h.mk c)
theorem Srt.rst {S : Fls} (h : Srt S) : ∀ (l : List Chg) (ks : List Bool), Srt (rstF l ks S) := fun l => by
  induction l generalizing S with
  | nil => intro ks; exact h
  | cons c r ih =>
    intro ks
    unfold rstF
    split
    · cases c with
      | wr p b => exact ih (h.put _ _) _
      | rn p q => exact ih (h.mk _) _
      | rm p => exact ih (h.mk _) _
    · exact ih h _

/-- A disk. -/
structure Dk where
  room : Int
  seen : Fls
  lasts : Fls
  waits : List Chg
  power : Int
def Dk.do_ (D : Dk) (c : Chg) : Dk := { D with seen := mkF D.seen c, waits := D.waits ++ [c], power := if 0 < D.power then D.power - 1 else D.power }
def Dk.spent (D : Dk) : Dk := { D with power := if 0 < D.power then D.power - 1 else D.power }
def namedB (p : Byts) : Bool := decide (0 < p.length) && decide (p.length < 97) && p.all (fun c => c != 0)
def writeD (D : Dk) (p b : Byts) : Dk × Int :=
  if namedB p = false then (D, 1) else if D.power = 0 then (D, 6) else
  if D.room < ((fUsed D.seen : Nat) : Int) - (((fGet D.seen p).getD []).length : Int) + (b.length : Int) then (D, 5) else (D.do_ (.wr p b), 0)
def readD (D : Dk) (p : Byts) : Byts × Int :=
  if D.power = 0 then ([], 6) else match fGet D.seen p with
  | none => ([], 4)
  | some b => (b, 0)
def renameD (D : Dk) (p q : Byts) : Dk × Int :=
  if namedB q = false then (D, 1) else if D.power = 0 then (D, 6) else if fGet D.seen p = none then (D, 4) else (D.do_ (.rn p q), 0)
def removeD (D : Dk) (p : Byts) : Dk × Int :=
  if D.power = 0 then (D, 6) else if fGet D.seen p = none then (D, 4) else (D.do_ (.rm p), 0)
def syncD (D : Dk) : Dk × Int := if D.power = 0 then (D, 6) else ({ D.spent with lasts := D.seen, waits := [] }, 0)
def restartD (D : Dk) (ks : List Bool) : Dk := { D with seen := rstF D.waits ks D.lasts, lasts := rstF D.waits ks D.lasts, waits := [], power := -1 }
def newD (room : Int) : Dk := ⟨room, [], [], [], -1⟩
/-- What is seen is what lasts with what waits. -/
structure Dk.Ok (D : Dk) : Prop where
  lasts : Srt D.lasts
  seen : D.seen = D.waits.foldl mkF D.lasts
theorem Dk.Ok.srt {D : Dk} (h : D.Ok) : Srt D.seen := by rw [h.seen]; exact h.lasts.mks _
theorem Dk.Ok.do_ {D : Dk} (h : D.Ok) (c : Chg) : (D.do_ c).Ok := ⟨h.lasts, by
  show mkF D.seen c = (D.waits ++ [c]).foldl mkF D.lasts
  rw [List.foldl_append, ← h.seen]; rfl⟩
theorem Dk.Ok.spent {D : Dk} (h : D.Ok) : D.spent.Ok := ⟨h.lasts, h.seen⟩
theorem Dk.Ok.sync {D : Dk} (h : D.Ok) : (syncD D).1.Ok := by
  unfold syncD
  split
  · exact h
  · exact ⟨h.srt, rfl⟩
theorem Dk.Ok.restart {D : Dk} (h : D.Ok) (ks : List Bool) : (restartD D ks).Ok := ⟨h.lasts.rst _ _, rfl⟩
theorem Dk.Ok.new (room : Int) : (newD room).Ok := ⟨Srt.nil, rfl⟩
theorem Dk.Ok.write {D : Dk} (h : D.Ok) (p b : Byts) : (writeD D p b).1.Ok := by
  unfold writeD
  split
  · exact h
  · split
    · exact h
    · split
      · exact h
      · exact h.do_ _
theorem Dk.Ok.rename {D : Dk} (h : D.Ok) (p q : Byts) : (renameD D p q).1.Ok := by
  unfold renameD
  split
  · exact h
  · split
    · exact h
    · split
      · exact h
      · exact h.do_ _
theorem Dk.Ok.remove {D : Dk} (h : D.Ok) (p : Byts) : (removeD D p).1.Ok := by
  unfold removeD
  split
  · exact h
  · split
    · exact h
    · exact h.do_ _
end Go.Proofs.YtbcldknecdbemaaDoor

/-
  Disks, as mathematics (of no program): how many bytes there are at most.
-/
namespace Go.Proofs.YtbcldknecdbemaaDoor
set_option linter.unusedVariables false
set_option maxRecDepth 20000

def Chg.data : Chg → Nat
  | .wr _ b => b.length
  | _ => 0
def dataSum (l : List Chg) : Nat := (l.map Chg.data).sum
theorem used_sub {S S' : Fls} (h : S'.Sublist S) : fUsed S' ≤ fUsed S := by
  unfold fUsed
  induction h with
  | slnil => exact Nat.le_refl _
  | cons x _ ih => simp; omega
  | cons_cons x _ ih => simp; omega
theorem used_mk {S : Fls} (h : Srt S) (c : Chg) : fUsed (mkF S c) ≤ fUsed S + c.data := by
  cases c with
  | wr p b =>
    show fUsed (fPut S p b) ≤ fUsed S + b.length
    rw [used_put h.nodup]
    have := used_sub (fDel_sub S p)
    omega
  | rn p q =>
    show fUsed (match fGet S p with | none => S | some b => fPut (fDel S p) q b) ≤ fUsed S + 0
    have h1 := used_del h.nodup p
    cases hg : fGet S p with
    | none => simp
    | some b =>
      simp only
      rw [used_put (h.del p).nodup]
      rw [hg] at h1
      have := used_sub (fDel_sub (fDel S p) q)
      simp at h1
      omega
  | rm p =>
    show fUsed (fDel S p) ≤ fUsed S + 0
    exact used_sub (fDel_sub S p)
theorem used_mks : ∀ (l : List Chg) {S : Fls}, Srt S → fUsed (l.foldl mkF S) ≤ fUsed S + dataSum l
  | [], S, _ => by simp [dataSum]
  | c :: r, S, h => by
    have h1 := used_mk h c
    have h2 := used_mks r (h.mk c)
    simp [dataSum] at h2 ⊢
    omega
theorem half_le (b : Byts) : (halfB b).length ≤ b.length := by simp [halfB]; omega
theorem used_rst : ∀ (l : List Chg) (ks : List Bool) {S : Fls}, Srt S → fUsed (rstF l ks S) ≤ fUsed S + dataSum l
  | [], ks, S, _ => by simp [dataSum, rstF]
  | c :: r, ks, S, h => by
    have hd : dataSum (c :: r) = c.data + dataSum r := by simp [dataSum]
    rw [hd]
    unfold rstF
    split
    · cases c with
      | wr p b =>
        simp only
        have h2 := used_rst r ks.tail.tail (h.put p (if ks.tail.headD false = true then b else halfB b))
        have h1 := used_mk h (.wr p (if ks.tail.headD false = true then b else halfB b))
        have h3 : (if ks.tail.headD false = true then b else halfB b).length ≤ b.length := by
          split
          · exact Nat.le_refl _
          · exact half_le b
        simp only [Chg.data, mkF] at h1 ⊢
        omega
      | rn p q =>
        have h2 := used_rst r ks.tail (h.mk (.rn p q))
        have h1 := used_mk h (.rn p q)
        simp only
        omega
      | rm p =>
        have h2 := used_rst r ks.tail (h.mk (.rm p))
        have h1 := used_mk h (.rm p)
        simp only
        omega
    · have h2 := used_rst r ks.tail h
      omega
/-- As many bytes as there may ever be. -/
def Dk.weight (D : Dk) : Nat := fUsed D.lasts + dataSum D.waits
theorem Dk.Ok.used {D : Dk} (h : D.Ok) : fUsed D.seen ≤ D.weight := by rw [h.seen]; exact used_mks _ h.lasts
theorem dataSum_snoc (l : List Chg) (c : Chg) : dataSum (l ++ [c]) = dataSum l + c.data := by simp [dataSum]
theorem weight_do (D : Dk) (c : Chg) : (D.do_ c).weight = D.weight + c.data := by
  show fUsed D.lasts + dataSum (D.waits ++ [c]) = _
  rw [dataSum_snoc]; unfold Dk.weight; omega
theorem weight_write (D : Dk) (p b : Byts) : (writeD D p b).1.weight ≤ D.weight + b.length := by
  unfold writeD
  split
  · exact Nat.le_add_right _ _
  · split
    · exact Nat.le_add_right _ _
    · split
      · exact Nat.le_add_right _ _
      · rw [weight_do]; exact Nat.le_refl _
theorem weight_rename (D : Dk) (p q : Byts) : (renameD D p q).1.weight ≤ D.weight := by
  unfold renameD
  split
  · exact Nat.le_refl _
  · split
    · exact Nat.le_refl _
    · split
      · exact Nat.le_refl _
      · rw [weight_do]; exact Nat.le_refl _
theorem weight_remove (D : Dk) (p : Byts) : (removeD D p).1.weight ≤ D.weight := by
  unfold removeD
  split
  · exact Nat.le_refl _
  · split
    · exact Nat.le_refl _
    · rw [weight_do]; exact Nat.le_refl _
theorem weight_sync {D : Dk} (h : D.Ok) : (syncD D).1.weight ≤ D.weight := by
  unfold syncD
  split
  · exact Nat.le_refl _
  · show fUsed D.seen + dataSum [] ≤ _
    have := h.used
    simp [dataSum]; omega
theorem weight_restart {D : Dk} (h : D.Ok) (ks : List Bool) : (restartD D ks).weight ≤ D.weight := by
  show fUsed (rstF D.waits ks D.lasts) + dataSum [] ≤ _
  have := used_rst D.waits ks h.lasts
  unfold Dk.weight
  simp [dataSum]; simp [dataSum] at this; omega
theorem waits_write (D : Dk) (p b : Byts) : (writeD D p b).1.waits.length ≤ D.waits.length + 1 := by
  unfold writeD; split <;> (try split) <;> (try split) <;> simp [Dk.do_]
theorem waits_rename (D : Dk) (p q : Byts) : (renameD D p q).1.waits.length ≤ D.waits.length + 1 := by
  unfold renameD; split <;> (try split) <;> (try split) <;> simp [Dk.do_]
theorem waits_remove (D : Dk) (p : Byts) : (removeD D p).1.waits.length ≤ D.waits.length + 1 := by
  unfold removeD; split <;> (try split) <;> simp [Dk.do_]
theorem waits_sync (D : Dk) : (syncD D).1.waits.length ≤ D.waits.length := by
  unfold syncD; split <;> simp
theorem room_write (D : Dk) (p b : Byts) : (writeD D p b).1.room = D.room := by
  unfold writeD; split <;> (try split) <;> (try split) <;> rfl
theorem room_rename (D : Dk) (p q : Byts) : (renameD D p q).1.room = D.room := by
  unfold renameD; split <;> (try split) <;> (try split) <;> rfl
theorem room_remove (D : Dk) (p : Byts) : (removeD D p).1.room = D.room := by
  unfold removeD; split <;> (try split) <;> rfl
theorem room_sync (D : Dk) : (syncD D).1.room = D.room := by
  unfold syncD; split <;> rfl
end Go.Proofs.YtbcldknecdbemaaDoor

/-
  WORDS FOR MEMORY that the contracts of this family share (of no program): cells that lie at an address, a byte as a value, append and string(..) over such.
-/
namespace Go.Proofs.YtbcldknecdbemaaDoor
open Go.RowKit
set_option linter.unusedVariables false
set_option maxRecDepth 20000

theorem add_block (a : Addr) (j : Nat) : (a.add j).block = a.block := by
  unfold Addr.add
  split <;> rfl
theorem add_zero_eq (a : Addr) : a.add 0 = a := by simp [Addr.add]
theorem add_plain (b o j : Nat) : (⟨b, o, none⟩ : Addr).add j = ⟨b, o + j, none⟩ := by
  unfold Addr.add
  split <;> simp_all

/-- The cells 'vs' lie, one behind the other, at the address (if any) A, in a block below B. -/
def Lies (w : World) (B : Nat) (A : Option Addr) (vs : List Value) : Prop :=
  ∀ j u, vs[j]? = some u → ∃ ad, A = some ad ∧ ad.block < B ∧ w.cell? (ad.add j) = some u

section
variable {w w' : World} {B B' : Nat} {A : Option Addr} {vs : List Value}
theorem Lies.empty : Lies w B A [] := fun j u h => by simp at h
theorem Lies.at_ (h : Lies w B A vs) {j : Nat} {u : Value} (hu : vs[j]? = some u) : ∃ ad, A = some ad ∧ ad.block < B ∧ w.cell? (ad.add j) = some u := h j u hu
theorem Lies.keep (h : Lies w B A vs) (hk : ∀ p : Addr, p.block < B → w'.cell? p = w.cell? p) : Lies w' B A vs := fun j u hu => by
  obtain ⟨ad, e, hb, hc⟩ := h j u hu
  exact ⟨ad, e, hb, (hk _ (by rw [add_block]; exact hb)).trans hc⟩
theorem Lies.below (h : Lies w B A vs) (hb : Below B w w') : Lies w' B A vs := h.keep fun _ hp => hb.cell hp
theorem Lies.mono (h : Lies w B A vs) (hB : B ≤ B') : Lies w B' A vs := fun j u hu => by
  obtain ⟨ad, e, hb, hc⟩ := h j u hu
  exact ⟨ad, e, by omega, hc⟩
theorem Lies.take (h : Lies w B A vs) (k : Nat) : Lies w B A (vs.take k) := fun j u hu => by
  refine h j u ?_
  rw [List.getElem?_take] at hu
  split at hu
  · exact hu
  · cases hu
theorem Lies.of_own {base : Nat} {e : TypeId} {n c : Nat} (h : w.ownsRow base e 1 (.slice A n c) n vs) : Lies w w.heap.size A vs := by
  intro j u hu
  obtain ⟨h1, h2⟩ := h
  have hj : j < vs.length := by
    rcases Nat.lt_or_ge j vs.length with hlt | hge
    · exact hlt
    · rw [List.getElem?_eq_none hge] at hu; cases hu
  rcases h2 with ⟨_, h0⟩ | ⟨g, cap, cur, hv, _, hh, hn, _, hsz, htk⟩
  · subst h0; simp at h1; subst h1; simp at hj
  · injection hv with hA
    subst hA
    have hg : g < w.heap.size := by
      rcases Nat.lt_or_ge g w.heap.size with hlt | hge
      · exact hlt
      · rw [Array.getElem?_eq_none hge] at hh; cases hh
    refine ⟨⟨g, 0, none⟩, rfl, hg, ?_⟩
    rw [add_plain, cell_of_row w g _ cur e (0, 0) hh]
    have : (cur.toList.take (n * 1))[j]? = some u := by rw [htk]; exact hu
    rw [List.getElem?_take] at this
    split at this
    · simpa using this
    · cases this
theorem Lies.none_empty (h : Lies w B none vs) : vs = [] := by
  cases vs with
  | nil => rfl
  | cons x r =>
    obtain ⟨ad, e, _⟩ := h 0 x rfl
    cases e
theorem Lies.cells {ad : Addr} (h : Lies w B (some ad) vs) : ∀ j u, vs[j]? = some u → w.cell? (ad.add j) = some u := fun j u hu => by
  obtain ⟨ad', e, _, hc⟩ := h j u hu
  injection e with e
  subst e
  exact hc
end

/-- A byte as a value. -/
abbrev bv (b : UInt8) : Value := .int .u8 (b.toNat : Int)
theorem bv_one (l : List UInt8) : ∀ u ∈ l.map bv, u.oneCell' = true := fun u hu => by
  obtain ⟨b, _, rfl⟩ := List.mem_map.1 hu
  rfl

section
variable {P : Program} (w : World)

/-- append(owned, source...): the source may be nil, empty, or lie anywhere. -/
theorem run_append_src (base : Nat) (t ty e : TypeId) (i : TypeInfo) (z : Value) (bytes : Nat) (ht : P.underlying t = some (.slice e)) (hi : P.info? e = some i) (hz : i.zero = some z)
    (hsize : i.size = 1) (hby : i.bytes = bytes) (hzs : z.cells.size = 1)
    (v : Value) (n : Nat) (xs : List Value) (hown : w.ownsRow base e 1 v n xs)
    (B : Nat) (A : Option Addr) (m c : Nat) (news : List Value) (hl : news.length = m) (hr : Lies w B A news) (h1 : ∀ u ∈ news, u.oneCell' = true)
    (h63 : n + m ≤ maxLen) (hbytes : (n + m) * bytes ≤ 140737488355328) (hbase : base ≤ w.heap.size) :
    ∃ v' w', (Builtin.append_ #[t, t] ty #[v, .slice A m c]).run P w = .ok v' w' ∧ w'.ownsRow base e 1 v' (n + m) (xs ++ news) ∧ w.grownBy w' v.ownBlock ∧
      (v'.ownBlock = v.ownBlock ∨ v'.ownBlock = some w.heap.size) := by
  cases A with
  | none =>
    have hn := hr.none_empty
    subst hn
    simp at hl
    subst hl
    refine ⟨v, w, ?_, by simpa using hown, World.grownBy.refl w _, .inl rfl⟩
    rcases hown.2 with ⟨rfl, rfl⟩ | ⟨g, cap, cur, rfl, _, _, hnc, _⟩
    · simp [Builtin.append_, run_underlying ht, sizeOf, typeInfo, hi, Builtin.lenOf, Builtin.firstCells]
    · simp [Builtin.append_, run_underlying ht, sizeOf, typeInfo, hi, Builtin.lenOf, Builtin.firstCells, hnc, storeCells]
  | some ad =>
    obtain ⟨v', w', hrun, h2, h3, _, h5⟩ := run_append_own_at (P := P) w base t ty e i z 1 bytes ht hi hz hsize hby hzs (by omega) v n xs hown ad m c news (by omega) hr.cells h1 h63 hbytes hbase
    exact ⟨v', w', hrun, h2, h3, h5⟩

theorem wpList_append_src {ops : Array Oper} {rest : List Oper} {o : Oper} {a : Act} {Q : Exit → Act → World → Prop} (hgd : o.guard = none) (s x : Operand) (t : TypeId)
    (ho : o.op = .call { callee := .builtin .append, args := #[s, x], argTypes := #[t, t] })
    (base : Nat) (e : TypeId) (i : TypeInfo) (z : Value) (bytes : Nat) (ht : P.underlying t = some (.slice e)) (hi : P.info? e = some i) (hz : i.zero = some z)
    (hsize : i.size = 1) (hby : i.bytes = bytes) (hzs : z.cells.size = 1)
    (v : Value) (n : Nat) (xs : List Value) (hs : a.eval s = v) (hown : w.ownsRow base e 1 v n xs)
    (B : Nat) (A : Option Addr) (m c : Nat) (news : List Value) (hx : a.eval x = .slice A m c) (hl : news.length = m) (hr : Lies w B A news) (h1 : ∀ u ∈ news, u.oneCell' = true)
    (h63 : n + m ≤ maxLen) (hbytes : (n + m) * bytes ≤ 140737488355328) (hbase : base ≤ w.heap.size)
    (h : ∀ v' w', w'.ownsRow base e 1 v' (n + m) (xs ++ news) → w.grownBy w' v.ownBlock → (v'.ownBlock = v.ownBlock ∨ v'.ownBlock = some w.heap.size) → wpList P ops Q rest (a.put o.dst v') w') : wpList P ops Q (o :: rest) a w := by
  refine wpList_plain hgd fun K hK => ?_
  obtain ⟨v', w', hrun, h2, h3, h4⟩ := run_append_src (P := P) w base t o.type e i z bytes ht hi hz hsize hby hzs v n xs hown B A m c news hl hr h1 h63 hbytes hbase
  unfold Oper.wp execOp
  simp only [ho, resolve, invoke, builtin, Sem.run_bind, Sem.run_pure, Result.andThen_ok, List.map_toArray, List.map_cons, List.map_nil, hs, hx, hrun]
  exact hK _ _ (h v' w' h2 h3 h4)

theorem step_append_src {ops : Array Oper} {o : Oper} {a : Act} {K : Act → World → Prop} {Q : Exit → Act → World → Prop} {E : Prop} (hgd : o.guard = none) (s x : Operand) (t : TypeId)
    (ho : o.op = .call { callee := .builtin .append, args := #[s, x], argTypes := #[t, t] })
    (base : Nat) (e : TypeId) (i : TypeInfo) (z : Value) (bytes : Nat) (ht : P.underlying t = some (.slice e)) (hi : P.info? e = some i) (hz : i.zero = some z)
    (hsize : i.size = 1) (hby : i.bytes = bytes) (hzs : z.cells.size = 1)
    (v : Value) (n : Nat) (xs : List Value) (hs : a.eval s = v) (hown : w.ownsRow base e 1 v n xs)
    (B : Nat) (A : Option Addr) (m c : Nat) (news : List Value) (hx : a.eval x = .slice A m c) (hl : news.length = m) (hr : Lies w B A news) (h1 : ∀ u ∈ news, u.oneCell' = true)
    (h63 : n + m ≤ maxLen) (hbytes : (n + m) * bytes ≤ 140737488355328) (hbase : base ≤ w.heap.size)
    (h : ∀ v' w', w'.ownsRow base e 1 v' (n + m) (xs ++ news) → w.grownBy w' v.ownBlock → (v'.ownBlock = v.ownBlock ∨ v'.ownBlock = some w.heap.size) → K (a.put o.dst v') w') :
    if Region.wanted o (yielded ops a.tmps) = true then Oper.wp P o a w K Q else E := by
  have hw : Region.wanted o (yielded ops a.tmps) = true := by simp [Region.wanted, hgd]
  rw [if_pos hw]
  obtain ⟨v', w', hrun, h2, h3, h4⟩ := run_append_src (P := P) w base t o.type e i z bytes ht hi hz hsize hby hzs v n xs hown B A m c news hl hr h1 h63 hbytes hbase
  unfold Oper.wp execOp
  simp only [ho, resolve, invoke, builtin, Sem.run_bind, Sem.run_pure, Result.andThen_ok, List.map_toArray, List.map_cons, List.map_nil, hs, hx, hrun]
  exact h v' w' h2 h3 h4

/-- The cells of a new block lie there. -/
theorem Lies.new (w : World) (t : TypeId) (cs : List Value) : Lies (w.alloc (.cells cs.toArray t)) (w.heap.size + 1) (some ⟨w.heap.size, 0, none⟩) cs := fun j u hu =>
  ⟨⟨w.heap.size, 0, none⟩, rfl, Nat.lt_succ_self _, by rw [add_plain, cell_of_row _ _ _ _ t (0, 0) (heap_alloc_new w _)]; simpa using hu⟩

theorem Lies.drew {w : World} {B : Nat} {A : Option Addr} {vs : List Value} (h : Lies w B A vs) : Lies w.drew B A vs := h
theorem own_ge {w : World} {base : Nat} {e : TypeId} {size : Nat} {v : Value} {n : Nat} {xs : List Value} (h : w.ownsRow base e size v n xs) : ∀ g, v.ownBlock = some g → base ≤ g := fun g hg => by
  rcases h.2 with ⟨rfl, _⟩ | ⟨g', cap, cur, rfl, hb, _⟩
  · simp [Value.ownBlock] at hg
  · simp [Value.ownBlock] at hg; omega

theorem own_form {w : World} {base : Nat} {e : TypeId} {size : Nat} {v : Value} {n : Nat} {xs : List Value} (h : w.ownsRow base e size v n xs) : ∃ A c, v = .slice A n c ∧ n ≤ c := by
  rcases h.2 with ⟨rfl, rfl⟩ | ⟨g', cap, cur, rfl, _, _, hc, _⟩
  · exact ⟨none, 0, rfl, Nat.le_refl _⟩
  · exact ⟨_, _, rfl, hc⟩

/-- string(b): the bytes that lie there. -/
theorem run_string_of (src e : TypeId) (hs : P.underlying src = some (.slice e)) (he : P.underlying e = some (.int .u8)) (dst : TypeId) (hd : P.underlying dst = some .string)
    (B : Nat) (A : Option Addr) (m c : Nat) (l : List UInt8) (hl : l.length = m) (hr : Lies w B A (l.map bv)) :
    (convert src dst (.slice A m c)).run P w = .ok (.string ⟨l.toArray⟩) w := by
  cases A with
  | none =>
    have hn := hr.none_empty
    simp at hn
    subst hn
    rw [run_convert_bytes_nil w src e hs he m c dst hd]
    rfl
  | some ad =>
    have hload : (loadCells ad m).run P w = .ok ((l.map fun b => (b.toNat : Int)).map (Value.int .u8)).toArray w := by
      have := run_loadCells_list (P := P) w ad (l.map bv) hr.cells
      rw [List.length_map, hl] at this
      rw [this, List.map_map]
      rfl
    rw [run_convert_bytes_string w src dst e _ m c hs he hd, run_bytesToString w _ m c _ hload, foldl_push_bytes]
    simp [ByteArray.empty, ByteArray.emptyWithCapacity, List.map_map, Function.comp_def]
    rfl
end

theorem below_draws {B n : Nat} {a w : World} (h : Below B a w) : Below B a (w.drewN n) := ⟨h.os, h.tape, h.output, h.size, h.block⟩

theorem Lies.later {w w' : World} {A : Option Addr} {vs : List Value} (h : Lies w w.heap.size A vs) (hb : Below w.heap.size w w') : Lies w' w'.heap.size A vs := (h.below hb).mono hb.size
theorem grow_trans {a b c : World} (h : Below a.heap.size a b) (k : Below b.heap.size b c) : Below a.heap.size a c := h.trans (k.mono h.size)

theorem Lies.alloc_ {w : World} {B : Nat} {A : Option Addr} {vs : List Value} {o : Obj} (h : Lies w B A vs) (hB : B ≤ w.heap.size) : Lies (w.alloc o) B A vs := h.keep fun p hp => World.cell?_alloc_lt w o p (by omega)

/-- A store into one of the cells. -/
theorem Lies.set_ {w : World} {B b k : Nat} {vs : List Value} {u : Value} (h : Lies w B (some ⟨b, 0, none⟩) vs) (hk : k < vs.length) : Lies (w.setCell ⟨b, k, none⟩ u) B (some ⟨b, 0, none⟩) (vs.set k u) := fun j x hx => by
  have hj : j < vs.length := by
    rcases Nat.lt_or_ge j vs.length with hlt | hge
    · exact hlt
    · rw [List.getElem?_eq_none (by simpa using hge)] at hx; cases hx
  obtain ⟨ad, e, hb, hc⟩ := h j vs[j] (List.getElem?_eq_getElem hj)
  injection e with e
  subst e
  refine ⟨_, rfl, hb, ?_⟩
  rw [add_plain, Nat.zero_add] at hc ⊢
  by_cases hjk : k = j
  · subst hjk
    rw [List.getElem?_set_self hk] at hx
    injection hx with hx
    subst hx
    exact World.cell?_setCell_same w _ _ hc
  · rw [List.getElem?_set_ne hjk, List.getElem?_eq_getElem hj] at hx
    injection hx with hx
    subst hx
    rw [World.cell?_setCell_other w _ _ _ (by intro e; injection e with _ e; exact hjk e)]
    exact hc

/-- []byte(s): a new row. -/
theorem run_bytes_of {P : Program} (src dst e : TypeId) (hs : P.underlying src = some .string) (hd : P.underlying dst = some (.slice e)) (he : P.underlying e = some (.int .u8)) (l : List UInt8) (hl : l.length ≤ maxLen) (w : World) :
    ∃ w' c, (convert src dst (.string ⟨l.toArray⟩)).run P w = .ok (.slice (some ⟨w.heap.size, 0, none⟩) l.length c) w' ∧ l.length ≤ c ∧ c ≤ maxLen ∧ Below w.heap.size w w' ∧ w'.heap.size = w.heap.size + 1 ∧
      (∀ j u, (l.map bv)[j]? = some u → w'.cell? ⟨w.heap.size, j, none⟩ = some u) ∧ ∀ j, j < l.length → w'.frozen? ⟨w.heap.size, j, none⟩ = false := by
  have hz : (⟨l.toArray⟩ : ByteArray).size = l.length := by show l.toArray.size = _; simp
  refine ⟨Lib.bytesWorld w e ⟨l.toArray⟩, grownCap w l.length 0 e, ?_, grownCap_ge _ _ _ _, grownCap_le_maxLen _ _ _ _ hl, ?_, Lib.bytesWorld_size _ _ _, ?_, ?_⟩
  · have := Lib.run_convert_string_bytes (P := P) w src dst e ⟨l.toArray⟩ hs hd he
    rwa [hz] at this
  · refine ⟨?_, ?_, ?_, ?_, fun k hk => Lib.bytesWorld_at_old w e _ k hk⟩
    · simp [Lib.bytesWorld, World.freeze, World.alloc, World.drew, -World.alloc_eq, -World.drew_eq]
    · simp [Lib.bytesWorld, World.freeze, World.alloc, World.drew, -World.alloc_eq, -World.drew_eq]
    · simp [Lib.bytesWorld, World.freeze, World.alloc, World.drew, -World.alloc_eq, -World.drew_eq]
    · rw [Lib.bytesWorld_size]; omega
  · intro j u hu
    have hj : j < l.length := by
      rcases Nat.lt_or_ge j l.length with h | h
      · exact h
      · rw [List.getElem?_eq_none (by simpa using h)] at hu; cases hu
    rw [Lib.bytesWorld_cell w e _ j (by rw [hz]; exact hj)]
    rw [List.getElem?_map, List.getElem?_eq_getElem hj] at hu
    simp at hu
    rw [← hu]
    simp [List.getD, List.getElem?_eq_getElem hj]
  · intro j hj
    have hc : l.length ≤ (Lib.bytesCells w e ⟨l.toArray⟩).size := by simp [Lib.bytesCells]
    simp only [World.frozen?, Lib.bytesWorld_at_new]
    simp
    omega

/-- s + t -/
theorem run_cat {P : Program} (l r : List UInt8) (h : l.length + r.length ≤ 4611686018427387904) (w : World) : (Op.stringOp .add ⟨l.toArray⟩ ⟨r.toArray⟩).run P w = .ok (.string ⟨(l ++ r).toArray⟩) w := by
  have e : (⟨l.toArray⟩ : ByteArray) ++ ⟨r.toArray⟩ = ⟨(l ++ r).toArray⟩ := by ext1; simp
  rw [run_string_add_sum w _ _ (by show l.toArray.size + r.toArray.size ≤ _; simp; omega), e]

/-- What is told of a []byte that came in, as bytes that lie there. -/
theorem row_bytes {w : World} {a : Option Addr} {len cap : Nat} {zs : List Int}
    (h : (a = none ∧ len = 0 ∧ cap = 0 ∧ zs = []) ∨ ∃ x, a = some x ∧ len ≤ cap ∧ cap ≤ maxLen ∧ zs.length = cap ∧ (∀ i, i < zs.length → w.cell? (x.add i) = some (.int .u8 (zs.getD i 0))) ∧ ∀ n ∈ zs, (Lit.int .u8 n).wf = true) :
    ∃ bs : List UInt8, bs.length = len ∧ Lies w w.heap.size a (bs.map bv) ∧ len ≤ cap ∧ cap ≤ maxLen := by
  rcases h with ⟨rfl, rfl, rfl, rfl⟩ | ⟨x, rfl, hl, hm, hz, hc, hw⟩
  · exact ⟨[], rfl, Lies.empty, Nat.le_refl _, Nat.zero_le _⟩
  · refine ⟨(zs.take len).map fun z => UInt8.ofNat z.toNat, by simp; omega, fun j u hu => ?_, hl, hm⟩
    rw [List.map_map, List.getElem?_map, List.getElem?_take] at hu
    split at hu
    · rename_i hj
      have hjz : j < zs.length := by omega
      rw [List.getElem?_eq_getElem hjz] at hu
      simp at hu
      have h1 := hc j hjz
      have h2 := hw _ (List.getElem_mem hjz)
      have h3 : 0 ≤ zs[j] ∧ zs[j] ≤ 255 := by simp [Lit.wf, IntKind.min, IntKind.max, IntKind.signed, IntKind.bits] at h2; omega
      refine ⟨x, rfl, ?_, ?_⟩
      · have := World.block_lt_of_cell? w _ h1
        rwa [add_block] at this
      · rw [h1, ← hu]
        simp [List.getElem?_eq_getElem hjz]
        omega
    · simp at hu

end Go.Proofs.YtbcldknecdbemaaDoor

/-
  A region that draws its order, walked once, in one order of ours: what only reads, and reads the same in every later world, is taken as soon as it may come up; what makes memory is carried out where nothing else may come up. (Of no program.)
-/
namespace Go.Proofs.YtbcldknecdbemaaDoor
open Go.RowKit
set_option linter.unusedVariables false
set_option maxRecDepth 20000

/-- Nothing of what is there in a has turned in b. -/
abbrev Grows (a b : World) : Prop := Below a.heap.size a b
theorem Grows.refl (a : World) : Grows a a := Below.refl _ _
theorem hcell_later {a b : World} {p : Addr} {u : Value} (h : a.cell? p = some u) (hb : Grows a b) : b.cell? p = some u := (hb.cell (World.block_lt_of_cell? a p h)).trans h
theorem Grows.trans {a b c : World} (h : Grows a b) (k : Grows b c) : Grows a c := grow_trans h k

section
variable {P : Program} {ops : Array Oper} {Q : Exit → Act → World → Prop} {md : Region.Mode}

/-- Whatever order is picked from here on; behind every operation the world has but grown. -/
def wpAnyG (P : Program) (md : Region.Mode) (ops : Array Oper) (Q : Exit → Act → World → Prop) : Nat → Array Bool → Act → World → Prop
  | 0, listed, a, w => Region.ready md ops listed = [] ∧ Q .normal a w
  | fuel + 1, listed, a, w =>
    (Region.ready md ops listed = [] → Q .normal a w) ∧
    ∀ i ∈ Region.ready md ops listed, wpOp P ops Q i (fun a' w' => Grows w w' ∧ wpAnyG P md ops Q fuel (listed.setIfInBounds i true) a' w') a w

theorem wpAny_of_grown : ∀ (fuel : Nat) (listed : Array Bool) (a : Act) (w : World), wpAnyG P md ops Q fuel listed a w → wpAny P md ops Q fuel listed a w
  | 0, _, _, _, h => h
  | fuel + 1, _, _, _, h => ⟨h.1, fun i hi => wpOp_mono (fun a' w' h' => wpAny_of_grown fuel _ a' w' h'.2) (h.2 i hi)⟩

theorem yields_weaken {S S' : World → Prop} {o : Oper} {v : Value} {a : Act} (h : YieldsIf P ops S o v a) (hS : ∀ w, S' w → S w) : YieldsIf P ops S' o v a :=
  h.imp (fun ⟨hw, hv⟩ => ⟨hw, fun w h' => hv w (hS w h')⟩) id

/-- What may come up now, and yields one value in this world and in all that come of it, may be taken first. -/
theorem wpAnyG_first {i : Nat} {oi : Oper} {v : Value} (hi : ops[i]? = some oi) (hsel : ∀ (j : Nat) (o : Oper) cs b, ops[j]? = some o → o.op ≠ .select cs b)
    (hQ : ∀ c a w, Q (.panic c) (a.put oi.dst v) w → Q (.panic c) a w) :
    ∀ (fuel : Nat) (listed : Array Bool) (a : Act) (w : World),
      (∀ j oj, ops[j]? = some oj → j ≠ i → listed.getD j true = false → (∀ e ∈ oj.after, Region.binds md e = true → e.on ≠ i) → oi.apart ops oj = true) →
      i ∈ Region.ready md ops listed → YieldsIf P ops (Grows w) oi v a →
      wpAnyG P md ops Q fuel (listed.setIfInBounds i true) (a.put oi.dst v) w → wpAnyG P md ops Q (fuel + 1) listed a w := by
  intro fuel
  induction fuel with
  | zero =>
    intro listed a w _ hr hy H
    refine ⟨fun h => (by rw [h] at hr; cases hr), fun j hj => ?_⟩
    by_cases hji : j = i
    · subst hji
      exact hy.wpOp hi (Grows.refl w) ⟨Grows.refl w, H⟩
    · have := ready_mono hj hji
      rw [H.1] at this
      cases this
  | succ fuel ih =>
    intro listed a w hfree hr hy H
    refine ⟨fun h => (by rw [h] at hr; cases hr), fun j hj => ?_⟩
    by_cases hji : j = i
    · subst hji
      exact hy.wpOp hi (Grows.refl w) ⟨Grows.refl w, H⟩
    · have h1 := H.2 j (ready_mono hj hji)
      obtain ⟨hjun, oj, hoj, hall⟩ := mem_ready.1 hj
      have hnot : ∀ e ∈ oj.after, Region.binds md e = true → e.on ≠ i := fun e he hb heq => by
        have h1 := hall e he hb
        have h0 := (mem_ready.1 hr).1
        rw [heq] at h1
        rcases Nat.lt_or_ge i listed.size with h' | h'
        · simp [h'] at h0 h1
          rw [h0] at h1
          cases h1
        · simp [Array.getElem?_eq_none h'] at h1
      have h2 := wpOp_putIf hoj (hfree j oj hoj hji hjun hnot) (fun cs b => hsel i oi cs b hi) (fun cs b => hsel j oj cs b hoj) hQ hy h1
      have hfree' : ∀ k ok, ops[k]? = some ok → k ≠ i → (listed.setIfInBounds j true).getD k true = false →
          (∀ e ∈ ok.after, Region.binds md e = true → e.on ≠ i) → oi.apart ops ok = true := fun k ok hk hki hun hno => by
        refine hfree k ok hk hki ?_ hno
        by_cases hjk : j = k
        · subst hjk
          exact hjun
        · rw [getD_set_ne true hjk] at hun
          exact hun
      refine wpOp_mono (fun a' w' h3 => ⟨h3.2.1, ih (listed.setIfInBounds j true) a' w' hfree' (ready_mono hr (Ne.symm hji)) (yields_weaken h3.1 fun u hu => Grows.trans h3.2.1 hu) ?_⟩) h2
      rw [Array.setIfInBounds_comm _ _ hji]
      exact h3.2.2

/-- Our order is one that may be: each number may come up; (i, true): nobody who may come ahead of it touches what it touches; (i, false): nobody else may come up. -/
def schedB (md : Region.Mode) (ops : Array Oper) : List (Nat × Bool) → Array Bool → Bool
  | [], listed => (Region.ready md ops listed).isEmpty
  | (i, true) :: s, listed => (Region.ready md ops listed).contains i && Region.free md ops listed i && schedB md ops s (listed.setIfInBounds i true)
  | (i, false) :: s, listed => Region.ready md ops listed == [i] && schedB md ops s (listed.setIfInBounds i true)

/-- The walk in our order. w0: the world in which the region began. -/
def wpSched (P : Program) (ops : Array Oper) (Q : Exit → Act → World → Prop) (w0 : World) : List (Nat × Bool) → Act → World → Prop
  | [], a, w => Q .normal a w
  | (i, true) :: s, a, w => ∃ o v, ops[i]? = some o ∧ YieldsIf P ops (fun u => Grows w0 u ∧ Grows w u) o v a ∧ wpSched P ops Q w0 s (a.put o.dst v) w
  | (i, false) :: s, a, w => wpOp P ops Q i (fun a' w' => Grows w w' ∧ wpSched P ops Q w0 s a' w') a w

theorem wpAnyG_of_sched (hs : Region.noSelect ops = true) (hQ : ∀ c a d v w, Q (.panic c) (Act.put a d v) w → Q (.panic c) a w) {w0 : World} :
    ∀ (s : List (Nat × Bool)) (listed : Array Bool) (a : Act) (w : World), Grows w0 w → schedB md ops s listed = true → wpSched P ops Q w0 s a w → wpAnyG P md ops Q s.length listed a w
  | [], listed, a, w, _, hB, h => ⟨by simpa [schedB] using hB, h⟩
  | (i, true) :: s, listed, a, w, hw, hB, h => by
    simp only [schedB, Bool.and_eq_true] at hB
    obtain ⟨⟨hr, hf⟩, hB'⟩ := hB
    obtain ⟨o, v, ho, hy, h'⟩ := h
    exact wpAnyG_first ho (Region.noSelect_spec hs) (fun c a w => hQ c a o.dst v w) s.length listed a w (Region.free_spec ho hf) (by simpa using hr)
      (yields_weaken hy fun u hu => ⟨Grows.trans hw hu, hu⟩) (wpAnyG_of_sched hs hQ s _ _ w hw hB' h')
  | (i, false) :: s, listed, a, w, hw, hB, h => by
    simp only [schedB, Bool.and_eq_true] at hB
    obtain ⟨hr, hB'⟩ := hB
    have hr' : Region.ready md ops listed = [i] := by simpa using hr
    refine ⟨fun h0 => (by rw [hr'] at h0; cases h0), fun j hj => ?_⟩
    rw [hr'] at hj
    have hji : j = i := by simpa using hj
    subst hji
    exact wpOp_mono (fun a' w' h' => ⟨h'.1, wpAnyG_of_sched hs hQ s _ a' w' (Grows.trans hw h'.1) hB' h'.2⟩) h

/-- THE RULE. -/
theorem wp_region_sched {id : Nat} {a : Act} {w : World} {l : List Oper} (s : List (Nat × Bool)) (hm : P.follows .mixedOrders = true)
    (hB : (Region.noSelect l.toArray && (s.length == l.toArray.size) && schedB .any l.toArray s (Array.replicate l.toArray.size false)) = true)
    (h : wpSched P l.toArray (NoPanic Q) w.drew s a w.drew) : (Code.region id l.toArray true).wp P Q a w := by
  simp only [Bool.and_eq_true] at hB
  obtain ⟨⟨h1, h2⟩, h3⟩ := hB
  refine wp_region_noPanic (wp_region_any hm (wpAny_of_grown _ _ _ _ ?_))
  have := wpAnyG_of_sched (P := P) (md := .any) (Q := NoPanic Q) h1 (fun c a d v w h => h) s (Array.replicate l.toArray.size false) a w.drew (Grows.refl _) h3 h
  rwa [beq_iff_eq.1 h2] at this

theorem sched_take {l : List Oper} {w0 w : World} {i : Nat} {s : List (Nat × Bool)} {a : Act} (o : Oper) (v : Value) (ho : l[i]? = some o)
    (hw : Region.wanted o (yielded l.toArray a.tmps) = true) (hy : ∀ u, Grows w0 u → Grows w u → (execOp a.eval o).run P u = .ok (.value v) u)
    (h : wpSched P l.toArray Q w0 s (a.put o.dst v) w) : wpSched P l.toArray Q w0 ((i, true) :: s) a w :=
  ⟨o, v, by simpa using ho, .inl ⟨hw, fun u hu => hy u hu.1 hu.2⟩, h⟩
theorem sched_skip {l : List Oper} {w0 w : World} {i : Nat} {s : List (Nat × Bool)} {a : Act} (o : Oper) (ho : l[i]? = some o)
    (hw : Region.wanted o (yielded l.toArray a.tmps) = false) (h : wpSched P l.toArray Q w0 s (a.put o.dst undef) w) : wpSched P l.toArray Q w0 ((i, true) :: s) a w :=
  ⟨o, undef, by simpa using ho, .inr ⟨hw, rfl⟩, h⟩
theorem sched_move {l : List Oper} {w0 w : World} {i : Nat} {s : List (Nat × Bool)} {a : Act} (o : Oper) (ho : l[i]? = some o)
    (hw : Region.wanted o (yielded l.toArray a.tmps) = true)
    (h : ∀ K : Act → World → Prop, Shut (∀ a' w', Grows w w' → wpSched P l.toArray Q w0 s a' w' → K a' w') → Oper.wp P o a w K Q) : wpSched P l.toArray Q w0 ((i, false) :: s) a w := by
  show wpOp _ _ _ _ _ _ _
  refine wpOp_step (by simpa using ho) fun K hK => ?_
  rw [if_pos hw]
  exact h K fun a' w' hg hs => hK a' w' ⟨hg, hs⟩
theorem sched_pass {l : List Oper} {w0 w : World} {i : Nat} {s : List (Nat × Bool)} {a : Act} (o : Oper) (ho : l[i]? = some o)
    (hw : Region.wanted o (yielded l.toArray a.tmps) = false) (h : wpSched P l.toArray Q w0 s (a.put o.dst undef) w) : wpSched P l.toArray Q w0 ((i, false) :: s) a w := by
  show wpOp _ _ _ _ _ _ _
  refine wpOp_step (by simpa using ho) fun K hK => ?_
  rw [if_neg (by rw [hw]; exact Bool.false_ne_true)]
  exact hK _ _ ⟨Grows.refl _, h⟩
theorem sched_done {l : List Oper} {w0 w : World} {a : Act} (h : Q .normal a w) : wpSched P l.toArray Q w0 [] a w := h
end
attribute [irreducible] wpSched
end Go.Proofs.YtbcldknecdbemaaDoor

/-
  Contract of the reference's Few: the first bytes, in a row of its own.
-/
namespace Go.Proofs.YtbcldknecdbemaaDoor
open Go.RowKit
set_option linter.unusedVariables false
set_option maxRecDepth 20000

theorem byte_info : (Tryd.prog.info? 5).map (fun i => (i.zero, i.size, i.bytes)) = some (some (.int .u8 0), 1, 1) := by kernel_rfl

set_option maxHeartbeats 400000 in
theorem few_any (A : Option Addr) (n c m : Nat) (vs : List Value) (w : World) (hl : vs.length = n) (hr : Lies w w.heap.size A vs) (h1 : ∀ u ∈ vs, u.oneCell' = true) (hn : n ≤ c) (hm : m ≤ 1000000) (hc : c ≤ maxLen) :
    Calls Tryd.prog 9 #[.slice A n c, .int .i64 (m : Int)] w fun e w' => ∃ v, e = .returned v ∧ w'.ownsRow w.heap.size 5 1 v (min n m) (vs.take m) ∧ Below w.heap.size w w' := by
  unfold maxLen at hc
  obtain ⟨i0, hi0, hz0, hz1, hz2⟩ := info_parts byte_info
  by_cases hmn : m < n
  · have hlt : (vs.take m).length = m := by rw [List.length_take]; omega
    have HL : Hid (vs.length = n) := hl
    clear hl
    have HT : Hid ((vs.take m).length = m) := hlt
    clear hlt
    go_enter Tryd.func9, Tryd.ntmps9
    go_wp2_with (at_builtin; refine wpList_append_src _ rfl (.tmp 6) (.tmp 12) _ rfl w.heap.size 5 i0 _ 1 Tryd.underlying22 hi0 hz0 hz1 hz2 rfl (.slice none 0 0) 0 [] rfl (World.ownsRow_nil _ _ _ _) w.heap.size A m c (vs.take m) rfl HT.out (hr.take m) (fun u hu => h1 u (List.mem_of_mem_take hu)) (by unfold maxLen; omega) (by omega) (Nat.le_refl _) ?_; intro v' w' hown hg hat)
    go_ret
    refine ⟨v', rfl, ?_, (Below.refl _ _).grown hg (Nat.le_refl _) (by simp [Value.ownBlock])⟩
    rw [Nat.min_eq_right (by omega)]
    simpa using hown
  · have hlt : (vs.take m) = vs := List.take_of_length_le (by omega)
    rw [hlt]
    have HL : Hid (vs.length = n) := hl
    clear hl hlt
    go_enter Tryd.func9, Tryd.ntmps9
    go_wp2_with (at_builtin; refine wpList_append_src _ rfl (.tmp 6) (.tmp 12) _ rfl w.heap.size 5 i0 _ 1 Tryd.underlying22 hi0 hz0 hz1 hz2 rfl (.slice none 0 0) 0 [] rfl (World.ownsRow_nil _ _ _ _) w.heap.size A n c vs rfl HL.out hr h1 (by unfold maxLen; omega) (by omega) (Nat.le_refl _) ?_; intro v' w' hown hg hat)
    go_ret
    refine ⟨v', rfl, ?_, (Below.refl _ _).grown hg (Nat.le_refl _) (by simp [Value.ownBlock])⟩
    rw [Nat.min_eq_left (by omega)]
    simpa using hown

/-- Few over bytes. -/
theorem few_bytes (A : Option Addr) (n c m : Nat) (bs : List UInt8) (w : World) (hl : bs.length = n) (hr : Lies w w.heap.size A (bs.map bv)) (hn : n ≤ c) (hm : m ≤ 1000000) (hc : c ≤ maxLen) :
    Calls Tryd.prog 9 #[.slice A n c, .int .i64 (m : Int)] w fun e w' => ∃ A' c', e = .returned (.slice A' (min n m) c') ∧ min n m ≤ c' ∧
      w'.ownsRow w.heap.size 5 1 (.slice A' (min n m) c') (min n m) ((bs.take m).map bv) ∧ Lies w' w'.heap.size A' ((bs.take m).map bv) ∧ Below w.heap.size w w' := by
  refine (few_any A n c m (bs.map bv) w (by simpa using hl) hr (bv_one bs) hn hm hc).mono ?_
  rintro e w' ⟨v, rfl, hown, hb⟩
  obtain ⟨A', c', rfl, hk⟩ := own_form hown
  rw [← List.map_take] at hown
  exact ⟨A', c', rfl, hk, hown, Lies.of_own hown, hb⟩

end Go.Proofs.YtbcldknecdbemaaDoor

/-
  Contract of the reference's Fill: so many bytes, whatever bytes they are made of.
-/
namespace Go.Proofs.YtbcldknecdbemaaDoor
open Go.RowKit
set_option linter.unusedVariables false
set_option maxRecDepth 20000

end Go.Proofs.YtbcldknecdbemaaDoor

/-
  Contract of the reference's Around: a remainder.
-/
namespace Go.Proofs.YtbcldknecdbemaaDoor
open Go.RowKit
set_option linter.unusedVariables false
set_option maxRecDepth 20000

theorem ret_int {k : IntKind} {a b : Int} (h : a = b) : Ending.returned (.int k a) = .returned (.int k b) := by rw [h]
/-- What Around answers. -/
def around (n : Int) (m : Nat) : Nat := ((if n < 0 then -(n + 1) else n) % (m : Int)).toNat
theorem around_lt (n : Int) {m : Nat} (h : 0 < m) : around n m < m := by
  unfold around
  have h1 := Int.emod_lt_of_pos (if n < 0 then -(n + 1) else n) (show (0 : Int) < (m : Int) by omega)
  have h2 := Int.emod_nonneg (if n < 0 then -(n + 1) else n) (show (m : Int) ≠ 0 by omega)
  omega

set_option maxHeartbeats 400000 in
theorem around_any (n : Int) (m : Nat) (w : World) (hn : -9223372036854775808 ≤ n ∧ n ≤ 9223372036854775807) (hm : 0 < m ∧ m ≤ 4611686018427387904) :
    Calls Tryd.prog 8 #[.int .i64 n, .int .i64 (m : Int)] w fun e w' => e = .returned (.int .i64 (around n m : Int)) ∧ w = w' := by
  obtain ⟨n1, n2⟩ := hn
  obtain ⟨m1, m2⟩ := hm
  have hz : ((m : Int) == 0) = false := by simp; omega
  by_cases h : n < 0
  · have hr : (around n m : Int) = (-(n + 1)) % (m : Int) := by
      unfold around
      rw [if_pos h]
      have h2 := Int.emod_nonneg (-(n + 1)) (show (m : Int) ≠ 0 by omega)
      omega
    rw [hr]
    clear hr
    go_enter Tryd.func8, Tryd.ntmps8
    go_wp2
    go_ret
    exact ⟨ret_int (by rw [← Int.neg_tmod, Int.tmod_eq_emod_of_nonneg (by omega)]), rfl⟩
  · have hr : (around n m : Int) = n % (m : Int) := by
      unfold around
      rw [if_neg h]
      have h2 := Int.emod_nonneg n (show (m : Int) ≠ 0 by omega)
      omega
    rw [hr]
    clear hr
    go_enter Tryd.func8, Tryd.ntmps8
    go_wp2
    go_ret
    exact ⟨rfl, rfl⟩

end Go.Proofs.YtbcldknecdbemaaDoor

/-
  Words for arrays of bytes (of no program): compared by ==; opened as an argument; loads of whole variables.
-/
namespace Go.Proofs.YtbcldknecdbemaaDoor
open Go.RowKit
set_option linter.unusedVariables false
set_option maxRecDepth 20000

/-- An array of bytes as a value. -/
abbrev dv (l : List UInt8) : Value := .agg (l.map bv).toArray

section
variable {P : Program} (w : World)

theorem run_part_byte {e : TypeId} (he : P.underlying e = some (.int .u8)) (l : List UInt8) (i : Nat) (hi : i < l.length) : (part e (l.map bv).toArray i).run P w = .ok (bv l[i]) w := by
  simp [part, isAgg, run_underlying he, hi]

theorem run_items_bytes (d : Nat) {e : TypeId} (he : P.underlying e = some (.int .u8)) (la lb : List UInt8) : ∀ (is : List Nat), (∀ i ∈ is, i < la.length ∧ i < lb.length) →
    (Op.eqItems (d + 1) e 1 (la.map bv).toArray (lb.map bv).toArray is).run P w = .ok (is.all fun i => la[i]? == lb[i]?) w
  | [], _ => by simp [Op.eqItems]
  | i :: is, h => by
    obtain ⟨h1, h2⟩ := h i (by simp)
    have ih := run_items_bytes d he la lb is (fun j hj => h j (by simp [hj]))
    simp only [Op.eqItems, Sem.run_bind, Nat.mul_one, run_part_byte w he la i h1, run_part_byte w he lb i h2, Result.andThen_ok, run_equalIn_int w d e .u8 .u8 _ _ he]
    by_cases hq : la[i] = lb[i]
    · simp [hq, ih, List.getElem?_eq_getElem h1, List.getElem?_eq_getElem h2]
    · have hn : ¬ ((la[i].toNat : Int) = (lb[i].toNat : Int)) := fun e => hq (UInt8.toNat_inj.1 (by omega))
      simp [hn, hq, List.getElem?_eq_getElem h1, List.getElem?_eq_getElem h2]

theorem all_eq (la lb : List UInt8) (n : Nat) (ha : la.length = n) (hb : lb.length = n) : ((List.range n).all fun i => la[i]? == lb[i]?) = (la == lb) := by
  rw [Bool.eq_iff_iff]
  simp only [List.all_eq_true, List.mem_range, beq_iff_eq]
  constructor
  · intro h
    apply List.ext_getElem?
    intro i
    rcases Nat.lt_or_ge i n with hi | hi
    · exact h i hi
    · rw [List.getElem?_eq_none (by omega), List.getElem?_eq_none (by omega)]
  · intro h i _
    rw [h]

/-- a == b, two arrays of bytes. -/
theorem run_eql_bytes {t e : TypeId} {n : Nat} (ht : P.underlying t = some (.array n e)) (he : P.underlying e = some (.int .u8)) (hce : P.cellsOf e = 1) (la lb : List UInt8) (ha : la.length = n) (hb : lb.length = n) :
    (binOp .eql t (dv la) (dv lb)).run P w = .ok (.bool (la == lb)) w := by
  obtain ⟨i, hi⟩ := info_of_underlying he
  have h := run_equalIn_array (P := P) w 9999 (t := t) (la.map bv).toArray (lb.map bv).toArray ht hi
  rw [hce, run_items_bytes w 9998 he la lb (List.range n) (fun j hj => by have := List.mem_range.1 hj; omega), all_eq la lb n ha hb] at h
  simp only [binOp]
  simp [Op.equal, Op.maxDepth, h]
theorem run_neq_bytes {t e : TypeId} {n : Nat} (ht : P.underlying t = some (.array n e)) (he : P.underlying e = some (.int .u8)) (hce : P.cellsOf e = 1) (la lb : List UInt8) (ha : la.length = n) (hb : lb.length = n) :
    (binOp .neq t (dv la) (dv lb)).run P w = .ok (.bool (!(la == lb))) w := by
  obtain ⟨i, hi⟩ := info_of_underlying he
  have h := run_equalIn_array (P := P) w 9999 (t := t) (la.map bv).toArray (lb.map bv).toArray ht hi
  rw [hce, run_items_bytes w 9998 he la lb (List.range n) (fun j hj => by have := List.mem_range.1 hj; omega), all_eq la lb n ha hb] at h
  simp only [binOp]
  simp [Op.equal, Op.maxDepth, h]

/-- An array that lies there is read whole. -/
theorem load_arr {u : World} {B b n : Nat} {t e : TypeId} {l : List UInt8} (ht : P.underlying t = some (.array n e)) (hi : (P.info? t).map (·.size) = some n) (hl : l.length = n) (h : Lies u B (some ⟨b, 0, none⟩) (l.map bv)) :
    (Instr.loadAt t (.pointer (some ⟨b, 0, none⟩))).run P u = .ok (dv l) u :=
  run_loadAt_mid u b 0 t (l.map bv) _ (fun j v hv => by
    obtain ⟨ad, e, _, hc⟩ := h j v hv
    injection e with e
    subst e
    rwa [add_plain] at hc) ht rfl (by rw [List.length_map, hl]; exact hi)

theorem loadVar_arr {u : World} {B b n : Nat} {t e : TypeId} {l : List UInt8} (ht : P.underlying t = some (.array n e)) (hi : (P.info? t).map (·.size) = some n) (hl : l.length = n) (h : Lies u B (some ⟨b, 0, none⟩) (l.map bv)) :
    (loadVar t ⟨b, 0, none⟩).run P u = .ok (dv l) u :=
  run_loadVar_mid u b 0 t (l.map bv) _ (fun j v hv => by
    obtain ⟨ad, e, _, hc⟩ := h j v hv
    injection e with e
    subst e
    rwa [add_plain] at hc) ht rfl (by rw [List.length_map, hl]; exact hi)

/-- Results: an array in memory, and a number. -/
theorem res_arr_tmp {fn : Func} {p u : Tmp} {t e : TypeId} {n B b : Nat} {l : List UInt8} {w : World} (h : fn.results = #[.cell p t, .tmp u]) (tmps : Array Value) (hp : tmps.getD p undef = .pointer (some ⟨b, 0, none⟩))
    (ht : P.underlying t = some (.array n e)) (hi : (P.info? t).map (·.size) = some n) (hl : l.length = n) (hL : Lies w B (some ⟨b, 0, none⟩) (l.map bv)) :
    (results fn tmps).run P w = .ok (.tuple #[dv l, tmps.getD u undef]) w := by
  rw [results_cell_tmp h, hp]
  simp only [asAddr, Sem.run_pure, Result.andThen_ok, loadVar_arr ht hi hl hL]
theorem res_arr {fn : Func} {p : Tmp} {t e : TypeId} {n B b : Nat} {l : List UInt8} {w : World} (h : fn.results = #[.cell p t]) (tmps : Array Value) (hp : tmps.getD p undef = .pointer (some ⟨b, 0, none⟩))
    (ht : P.underlying t = some (.array n e)) (hi : (P.info? t).map (·.size) = some n) (hl : l.length = n) (hL : Lies w B (some ⟨b, 0, none⟩) (l.map bv)) :
    (results fn tmps).run P w = .ok (dv l) w := by
  have hp' : tmps[p]?.getD undef = .pointer (some ⟨b, 0, none⟩) := by simpa using hp
  simp [results, h, hp', asAddr, loadVar_arr ht hi hl hL]

theorem exec_load {o : Oper} {a : Act} {u : World} {ty : TypeId} {x : Operand} {p : Option Addr} {v : Value} (ho : o.op = .load ty x) (hx : a.eval x = .pointer p)
    (h : (Instr.loadAt ty (.pointer p)).run P u = .ok v u) : (execOp a.eval o).run P u = .ok (.value v) u := by
  unfold execOp
  simp only [ho, hx, Sem.run_bind, h, Result.andThen_ok, Sem.run_pure]

/-- The load of a whole variable, in a plain region. -/
theorem wpList_loads {ops : Array Oper} {rest : List Oper} {o : Oper} {a : Act} {w : World} {Q : Exit → Act → World → Prop} (hgd : o.guard = none) (ty : TypeId) (x : Operand) (ho : o.op = .load ty x)
    (p : Option Addr) (hx : a.eval x = .pointer p) (v : Value) (h : (Instr.loadAt ty (.pointer p)).run P w = .ok v w) (hk : wpList P ops Q rest (a.put o.dst v) w) : wpList P ops Q (o :: rest) a w := by
  refine wpList_plain hgd fun K hK => ?_
  unfold Oper.wp
  rw [exec_load ho hx h]
  exact hK _ _ hk

theorem wpList_loadg {ops : Array Oper} {rest : List Oper} {o : Oper} {a : Act} {w : World} {Q : Exit → Act → World → Prop} (hw : Region.wanted o (yielded ops a.tmps) = true) (ty : TypeId) (x : Operand) (ho : o.op = .load ty x)
    (p : Option Addr) (hx : a.eval x = .pointer p) (v : Value) (h : (Instr.loadAt ty (.pointer p)).run P w = .ok v w) (hk : wpList P ops Q rest (a.put o.dst v) w) : wpList P ops Q (o :: rest) a w := by
  refine BigFrame.wpList_want hw fun K hK => ?_
  unfold Oper.wp
  rw [exec_load ho hx h]
  exact hK _ _ hk

/-- .. and in the walk of a region in our order. -/
theorem sched_load {Q : Exit → Act → World → Prop} {l : List Oper} {w0 w : World} {i : Nat} {s : List (Nat × Bool)} {a : Act} (o : Oper) (v : Value) (ho : l[i]? = some o)
    (hw : Region.wanted o (yielded l.toArray a.tmps) = true) (ty : TypeId) (x : Operand) (hop : o.op = .load ty x) (p : Option Addr) (hx : a.eval x = .pointer p)
    (hy : ∀ u, Grows w0 u → (Instr.loadAt ty (.pointer p)).run P u = .ok v u)
    (h : wpSched P l.toArray Q w0 s (a.put o.dst v) w) : wpSched P l.toArray Q w0 ((i, true) :: s) a w :=
  sched_take o v ho hw (fun u h0 _ => exec_load hop hx (hy u h0)) h
end

theorem below_cells {B : Nat} {a : World} (b : Nat) (hb : B ≤ b) : ∀ (vs : List Value) (o : Nat) (w : World), Below B a w → Below B a (w.setCells b o vs)
  | [], _, _, h => h
  | v :: r, o, w, h => below_cells b hb r (o + 1) _ (h.setCell (p := ⟨b, o, none⟩) hb v)

/-- The variable in block b is an array of the bytes l, and may be written. -/
structure Box (w : World) (b : Nat) (l : List UInt8) : Prop where
  lt : b < w.heap.size
  cells : ∀ j u, (l.map bv)[j]? = some u → w.cell? ⟨b, j, none⟩ = some u
  free : ∀ j, w.frozen? ⟨b, j, none⟩ = false

section
variable {w w' : World} {b : Nat} {l : List UInt8}
theorem Box.new (w : World) (t : TypeId) (l : List UInt8) : Box (w.alloc (.cells (l.map bv).toArray t)) w.heap.size l :=
  ⟨by simp, fun j u hu => by rw [cell_of_row _ _ _ _ t (0, 0) (heap_alloc_new w _)]; simpa using hu, fun j => frozen_of_row _ _ j _ t (heap_alloc_new w _)⟩
theorem Box.lies (h : Box w b l) : Lies w w.heap.size (some ⟨b, 0, none⟩) (l.map bv) := fun j u hu => ⟨_, rfl, h.lt, by rw [add_plain, Nat.zero_add]; exact h.cells j u hu⟩
theorem Box.below {B : Nat} (h : Box w b l) (hb : Below B w w') (hB : b < B) : Box w' b l :=
  ⟨Nat.lt_of_lt_of_le h.lt hb.size, fun j u hu => (hb.cell (p := ⟨b, j, none⟩) hB).trans (h.cells j u hu), fun j => (hb.frozen (p := ⟨b, j, none⟩) hB).trans (h.free j)⟩
theorem Box.later (h : Box w b l) (hb : Grows w w') : Box w' b l := h.below hb h.lt
theorem Box.drew (h : Box w b l) : Box w.drew b l := ⟨h.lt, h.cells, h.free⟩
theorem Box.there (h : Box w b l) : w.there b 0 l.length := fun j hj => by
  refine ⟨?_, by rw [Nat.zero_add]; exact h.free j⟩
  rw [Nat.zero_add, h.cells j (bv l[j]) (by rw [List.getElem?_map, List.getElem?_eq_getElem hj]; rfl)]
  rfl
/-- One of its bytes is stored. -/
theorem Box.set_ (h : Box w b l) {k : Nat} (hk : k < l.length) (x : UInt8) : Box (w.setCell ⟨b, k, none⟩ (bv x)) b (l.set k x) := by
  have hs := h.lies.set_ (k := k) (u := bv x) (by simpa using hk)
  rw [← List.map_set] at hs
  refine ⟨by simpa [World.setCell] using h.lt, fun j u hu => ?_, fun j => by simpa using h.free j⟩
  obtain ⟨ad, e, _, hc⟩ := hs j u hu
  injection e with e
  subst e
  rwa [add_plain, Nat.zero_add] at hc
theorem Box.put_ (h : Box w b l) {l' : List UInt8} (hl : l'.length = l.length) : Box (w.setCells b 0 (l'.map bv)) b l' := by
  have ht : w.there b 0 (l'.map bv).length := by rw [List.length_map, hl]; exact h.there
  refine ⟨?_, fun j u hu => ?_, fun j => by rw [World.frozen?_setCells]; exact h.free j⟩
  · have := below_cells (B := 0) (a := w) b (Nat.zero_le _) (l'.map bv) 0 w (Below.refl _ _)
    exact Nat.lt_of_lt_of_le h.lt this.size
  · have := World.rangeAt_setCells_same w b 0 (l'.map bv) ht j u hu
    rwa [Nat.zero_add] at this
theorem Box.cell (h : Box w b l) {k : Nat} {x : UInt8} (hx : l[k]? = some x) : w.cell? ⟨b, k, none⟩ = some (bv x) := h.cells k _ (by rw [List.getElem?_map, hx]; rfl)
theorem Box.load {P : Program} {n : Nat} {t e : TypeId} (h : Box w b l) (ht : P.underlying t = some (.array n e)) (hi : (P.info? t).map (·.size) = some n) (hl : l.length = n) :
    (Instr.loadAt t (.pointer (some ⟨b, 0, none⟩))).run P w = .ok (dv l) w := load_arr ht hi hl h.lies

/-- A row of the call's own that is not empty, as a variable. -/
theorem own_box {base : Nat} {e : TypeId} {v : Value} {n : Nat} {l : List UInt8} (h : w.ownsRow base e 1 v n (l.map bv)) (hn : 0 < n) : ∃ g c, v = .slice (some ⟨g, 0, none⟩) n c ∧ n ≤ c ∧ base ≤ g ∧ Box w g l := by
  have h0 := h
  rcases h.2 with ⟨_, h'⟩ | ⟨g, cap, cur, rfl, hb, hg, hnc, _⟩
  · omega
  · refine ⟨g, cap, rfl, hnc, hb, ?_, fun j u hu => ?_, fun j => frozen_of_row w g j cur e hg⟩
    · rcases Nat.lt_or_ge g w.heap.size with hlt | hge
      · exact hlt
      · rw [Array.getElem?_eq_none hge] at hg; cases hg
    · obtain ⟨ad, e, _, hc⟩ := Lies.of_own h0 j u hu
      injection e with e
      subst e
      rwa [add_plain, Nat.zero_add] at hc

/-- The store of a whole array. -/
theorem wpList_stores {P : Program} {ops : Array Oper} {rest : List Oper} {o : Oper} {a : Act} {Q : Exit → Act → World → Prop} (hgd : o.guard = none) (ty : TypeId) (x y : Operand) (ho : o.op = .store ty x y)
    (b : Nat) (l l' : List UInt8) (n : Nat) (hx : a.eval x = .pointer (some ⟨b, 0, none⟩)) (hy : a.eval y = dv l') (hb : Box w b l) (hl : l.length = n) (hl' : l'.length = n) (hi : (P.info? ty).map (·.size) = some n)
    (h : ∀ w', Box w' b l' → (∀ B a0, B ≤ b → Below B a0 w → Below B a0 w') → wpList P ops Q rest (a.put o.dst undef) w') : wpList P ops Q (o :: rest) a w := by
  have hz : (l'.map bv).toArray.size = n := by simp [hl']
  refine wpList_store_mid hgd ty x y ho b 0 (l'.map bv).toArray hx hy (by rw [hz, ← hl]; exact hb.there) (by rw [hz]; exact hi) (all_oneCell_toArray (bv_one l')) ?_
  exact h _ (hb.put_ (by rw [hl, hl'])) (fun B a0 hB hbl => below_cells b hB _ 0 w hbl)
end

/-- An array of bytes that came in. -/
theorem open_bytes {H : Type} {enc : TypeId × Value → H} {P : Program} {w : World} {base b0 : Nat} {spare : Nat → Bool} {held : Bool} {r : Reach} {t e : TypeId} {n : Nat} {v : Value} {d : DataW H} {p : List MemPlace}
    (ht : P.underlying t = some (.array n e)) (he : P.underlying e = some (.int .u8)) (hce : P.cellsOf e = 1) (hct : P.cellsOf t = n)
    (hv : Value.okWide P w r b0 t v) (h : DataW.Trod enc P w base spare held t v d p) : ∃ l : List UInt8, l.length = n ∧ v = dv l := by
  simp only [Value.okWide, ht] at hv
  obtain ⟨cs, rfl, hsz, _⟩ := hv
  obtain ⟨fuel, hf⟩ := h
  obtain ⟨xs, m, _, _, _, hxl, hi⟩ := DataW.trod_array ht hf
  have cell : ∀ i (h : i < cs.size), ∃ b : UInt8, cs[i] = bv b := by
    intro i h
    have hin : i < n := by omega
    have hx := hi i hin
    rw [List.getElem?_eq_getElem (by omega)] at hx
    rw [hce, Nat.mul_one] at hx
    have htk : ((Value.agg cs).cells.toList.drop i).take 1 = [cs[i]] := by
      show (cs.toList.drop i).take 1 = _
      rw [List.drop_eq_getElem_cons (by simpa using h)]
      simp
    rw [htk] at hx
    obtain ⟨z, hz, _, hwf⟩ := DataW.trod_int he hx
    simp at hz
    have hb := bounds_u8 hwf
    refine ⟨UInt8.ofNat z.toNat, ?_⟩
    rw [hz]
    have : (UInt8.ofNat z.toNat).toNat = z.toNat := by simp; omega
    simp only [bv, this]
    congr 1
    omega
  refine ⟨(List.range n).map fun i => if h : i < cs.size then (cell i h).choose else 0, by simp, ?_⟩
  show Value.agg cs = Value.agg _
  congr 1
  apply Array.ext
  · simp; omega
  · intro i h1 h2
    simp [h1]
    exact (cell i h1).choose_spec
end Go.Proofs.YtbcldknecdbemaaDoor
