/-
  The longest match among places that are given, as a function of lists (of no program).
-/
import Derived.Test.YthnjbmaiebiehaaLzM
namespace Go.Proofs.Ythnjbmaiebiehaa
set_option linter.unusedVariables false

/-- One distance more is looked at. -/
def bstep (b : List UInt8) (i : Nat) (acc : Nat × Nat) (d : Nat) : Nat × Nat := if 4 ≤ mlen b i d ∧ acc.1 < mlen b i d then (mlen b i d, d) else acc
/-- The longest match at i that begins at one of these places, the last ones first. -/
def lgo (b : List UInt8) (i : Nat) (js : List Nat) : Nat × Nat := js.foldr (fun j acc => bstep b i acc (i - j)) (0, 0)
theorem lgo_nil (b : List UInt8) (i : Nat) : lgo b i [] = (0, 0) := rfl
theorem lgo_cons (b : List UInt8) (i j : Nat) (js : List Nat) : lgo b i (j :: js) = bstep b i (lgo b i js) (i - j) := rfl
theorem lgo_drop {b : List UInt8} {i k j : Nat} {js : List Nat} (h : js[k]? = some j) : lgo b i (js.drop k) = bstep b i (lgo b i (js.drop (k + 1))) (i - j) := by
  have hk : k < js.length := by
    rcases Nat.lt_or_ge k js.length with h1 | h1
    · exact h1
    · rw [List.getElem?_eq_none h1] at h; cases h
  rw [List.drop_eq_getElem_cons hk, lgo_cons]
  rw [List.getElem?_eq_getElem hk] at h
  injection h with h
  rw [h]
theorem bstep_le {b : List UInt8} {i d : Nat} {acc : Nat × Nat} (h : acc.1 ≤ 131) : (bstep b i acc d).1 ≤ 131 := by
  unfold bstep
  split
  · exact mlen_le _ _ _
  · exact h
theorem lgo_le (b : List UInt8) (i : Nat) : ∀ js, (lgo b i js).1 ≤ 131
  | [] => by simp [lgo]
  | j :: js => by rw [lgo_cons]; exact bstep_le (lgo_le b i js)
theorem bstep_full {b : List UInt8} {i d : Nat} {acc : Nat × Nat} (h : ¬ acc.1 < 131) : bstep b i acc d = acc := by
  unfold bstep
  have := mlen_le b i d
  rw [if_neg (by omega)]
theorem lgo_full {b : List UInt8} {i : Nat} {js : List Nat} : ∀ m, ¬ (lgo b i (js.drop m)).1 < 131 → lgo b i js = lgo b i (js.drop m)
  | 0, _ => rfl
  | m + 1, h => by
    by_cases hm : m < js.length
    · have e : lgo b i (js.drop m) = lgo b i (js.drop (m + 1)) := by
        rw [lgo_drop (List.getElem?_eq_getElem hm), bstep_full h]
      rw [← e]
      exact lgo_full m (by rw [e]; exact h)
    · rw [List.drop_eq_nil_of_le (by omega)] at h
      simp [lgo] at h
theorem lgo_dist (b : List UInt8) (i : Nat) : ∀ js, (lgo b i js).2 ≤ i
  | [] => by simp [lgo]
  | j :: js => by
    rw [lgo_cons]
    unfold bstep
    split
    · exact Nat.sub_le _ _
    · exact lgo_dist b i js
theorem lgo_all (b : List UInt8) (i : Nat) : ∀ m, m ≤ i → lgo b i (List.range' (i - m) m) = bestTo b i m
  | 0, _ => rfl
  | m + 1, h => by
    rw [List.range'_succ, lgo_cons, show i - (m + 1) + 1 = i - m by omega, lgo_all b i m (by omega), show i - (i - (m + 1)) = m + 1 by omega]
    rfl
theorem lgo_match {b : List UInt8} {i : Nat} (h : i < b.length) : lgo b i (List.range' (i - min i 1024) (min i 1024)) = matchOf b i := by
  rw [lgo_all b i _ (by omega)]
  unfold matchOf
  rw [if_pos h]
/-- Places at which fewer than four bytes are alike count nothing. -/
theorem lgo_filter {b : List UInt8} {i : Nat} {p : Nat → Bool} : ∀ (js : List Nat), (∀ j ∈ js, p j = false → mlen b i (i - j) < 4) → lgo b i (js.filter p) = lgo b i js
  | [], _ => rfl
  | j :: js, h => by
    have ih := lgo_filter js (fun k hk => h k (by simp [hk]))
    by_cases hp : p j = true
    · rw [List.filter_cons_of_pos hp, lgo_cons, lgo_cons, ih]
    · have hp' : p j = false := by simpa using hp
      have h4 := h j (by simp) hp'
      rw [List.filter_cons_of_neg hp, lgo_cons, ih]
      unfold bstep
      rw [if_neg (by omega)]
end Go.Proofs.Ythnjbmaiebiehaa
