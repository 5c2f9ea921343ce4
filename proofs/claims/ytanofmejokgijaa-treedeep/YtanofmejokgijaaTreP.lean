/-
  One entry's fields set in a forest; kids turned round; kids put in their row by their names (of no program).
-/
import Derived.Test.YtanofmejokgijaaTreO
namespace Go.Proofs.Ytanofmejokgijaa
set_option linter.unusedVariables false

/-- Entry number i has other fields. -/
def setF (o' : Own) : Fo → Nat → Fo
  | .nil, _ => .nil
  | .cons o k r, 0 => .cons o' k r
  | .cons o k r, i + 1 => if i < sizeF k then .cons o (setF o' k i) r else .cons o k (setF o' r (i - sizeF k))
theorem setF_size (o' : Own) (K : Fo) (i : Nat) : sizeF (setF o' K i) = sizeF K := by
  induction K generalizing i with
  | nil => rfl
  | cons o k r ik ir =>
    cases i with
    | zero => rfl
    | succ i =>
      rw [setF]
      split <;> simp [sizeF, ik, ir]
theorem setF_flat (o' : Own) (K : Fo) (i d : Nat) (x : Nat × Own) (hx : (flatD d K)[i]? = some x) : flatD d (setF o' K i) = (flatD d K).set i (x.1, o') := by
  induction K generalizing i d with
  | nil => simp [flatD] at hx
  | cons o k r ik ir =>
    cases i with
    | zero =>
      simp [flatD] at hx
      subst hx
      simp [setF, flatD]
    | succ i =>
      have hk := flatD_len k (d + 1)
      simp only [flatD, List.getElem?_cons_succ] at hx
      rw [setF]
      by_cases hi : i < sizeF k
      · rw [if_pos hi]
        rw [List.getElem?_append_left (by omega)] at hx
        simp only [flatD, List.set_cons_succ]
        rw [ik i (d + 1) hx, List.set_append_left _ _ (by omega)]
      · rw [if_neg hi]
        rw [List.getElem?_append_right (by omega), hk] at hx
        simp only [flatD, List.set_cons_succ]
        rw [ir (i - sizeF k) d hx, List.set_append_right _ _ (by omega), hk]

/-- Kids turned round, at every depth. -/
def revF : Fo → Fo → Fo
  | .nil, acc => acc
  | .cons o k r, acc => revF r (.cons o (revF k .nil) acc)
def roundF (K : Fo) : Fo := revF K .nil
/-- A node put ahead of the first one that is not below it. -/
def putF (o : Own) (k : Fo) : Fo → Fo
  | .nil => .cons o k .nil
  | .cons p a r => if cmpB p.name o.name = -1 then .cons p a (putF o k r) else .cons o k (.cons p a r)
/-- Kids by their names, at every depth; those of one name in the row in which they were. -/
def sortF : Fo → Fo
  | .nil => .nil
  | .cons o k r => putF o (sortF k) (sortF r)
theorem put_first {o : Own} {k r : Fo} (h : ∀ y ∈ tops r, cmpB o.name y = -1) : putF o k r = .cons o k r := by
  cases r with
  | nil => rfl
  | cons p a r =>
    have h1 := h p.name (by simp [tops])
    have h2 := cmpB_anti o.name p.name
    rw [putF, if_neg (by omega)]
theorem sort_ok {K : Fo} (h : okF K) : sortF K = K := by
  induction K with
  | nil => rfl
  | cons o k r ik ir =>
    obtain ⟨h1, h2, h3⟩ := h
    rw [sortF, ik h1, ir h2, put_first h3]
/-- Two forests, one behind the other. -/
def catF : Fo → Fo → Fo
  | .nil, L => L
  | .cons o k r, L => .cons o k (catF r L)
theorem cat_nil (K : Fo) : catF K .nil = K := by
  induction K with
  | nil => rfl
  | cons o k r _ ir => rw [catF, ir]
theorem cat_assoc (K L M : Fo) : catF (catF K L) M = catF K (catF L M) := by
  induction K with
  | nil => rfl
  | cons o k r _ ir => rw [catF, catF, catF, ir]
theorem tops_cat (K L : Fo) : tops (catF K L) = tops K ++ tops L := by
  induction K with
  | nil => rfl
  | cons o k r _ ir => simp [catF, tops, ir]
theorem put_last {o : Own} {k : Fo} : ∀ {r : Fo}, (∀ y ∈ tops r, cmpB y o.name = -1) → putF o k r = catF r (.cons o k .nil)
  | .nil, _ => rfl
  | .cons p a r, h => by
    rw [putF, if_pos (h p.name (by simp [tops])), put_last fun y hy => h y (by simp [tops, hy])]; rfl
theorem tops_put (o : Own) (k : Fo) (r : Fo) : ∀ y, y ∈ tops (putF o k r) ↔ y = o.name ∨ y ∈ tops r := by
  induction r with
  | nil => intro y; simp [putF, tops]
  | cons p a r _ ir =>
    intro y
    rw [putF]
    split
    · simp only [tops, List.mem_cons, ir]
      constructor
      · rintro (h | h | h)
        · exact .inr (.inl h)
        · exact .inl h
        · exact .inr (.inr h)
      · rintro (h | h | h)
        · exact .inr (.inl h)
        · exact .inl h
        · exact .inr (.inr h)
    · simp [tops]
theorem put_ok {o : Own} {k r : Fo} (hk : okF k) (hr : okF r) (hn : o.name ∉ tops r) : okF (putF o k r) := by
  induction r with
  | nil => exact ⟨hk, trivial, fun y hy => by simp [tops] at hy⟩
  | cons p a r _ ir =>
    obtain ⟨g1, g2, g3⟩ := hr
    rw [putF]
    split
    · rename_i hlt
      refine ⟨g1, ir g2 (fun h => hn (by simp [tops, h])), fun y hy => ?_⟩
      rcases (tops_put o k r y).1 hy with rfl | hy
      · exact hlt
      · exact g3 y hy
    · rename_i hlt
      have hne : cmpB p.name o.name ≠ 0 := fun e => hn (by rw [← (cmpB_eq _ _).1 e]; simp [tops])
      have h1 : cmpB p.name o.name = 1 := by rcases cmpB_val p.name o.name with h | h | h; exact absurd h hlt; exact absurd h hne; exact h
      have h2 := cmpB_anti p.name o.name
      refine ⟨hk, ⟨g1, g2, g3⟩, fun y hy => ?_⟩
      simp only [tops, List.mem_cons] at hy
      rcases hy with rfl | hy
      · omega
      · exact cmpB_lt (by omega) (g3 y hy)
/-- Putting two of other names: in either order. -/
theorem put_comm {o p : Own} {k a : Fo} (hne : o.name ≠ p.name) : ∀ {r : Fo}, okF r → o.name ∉ tops r → p.name ∉ tops r → putF o k (putF p a r) = putF p a (putF o k r)
  | .nil, _, _, _ => by
    have h := cmpB_anti o.name p.name
    have h0 : cmpB o.name p.name ≠ 0 := fun e => hne ((cmpB_eq _ _).1 e)
    rcases cmpB_val o.name p.name with h1 | h1 | h1
    · simp only [putF]
      rw [if_neg (by omega), if_pos h1]
    · exact absurd h1 h0
    · simp only [putF]
      rw [if_pos (by omega), if_neg (by omega)]
  | .cons q b r, hr, ho, hp => by
    obtain ⟨g1, g2, g3⟩ := hr
    have h := cmpB_anti o.name p.name
    have h0 : cmpB o.name p.name ≠ 0 := fun e => hne ((cmpB_eq _ _).1 e)
    have ih := put_comm (k := k) (a := a) hne g2 (fun h => ho (by simp [tops, h])) (fun h => hp (by simp [tops, h]))
    have noq : cmpB q.name o.name ≠ 0 := fun e => ho (by rw [← (cmpB_eq _ _).1 e]; simp [tops])
    have npq : cmpB q.name p.name ≠ 0 := fun e => hp (by rw [← (cmpB_eq _ _).1 e]; simp [tops])
    by_cases c1 : cmpB q.name p.name = -1
    · by_cases c2 : cmpB q.name o.name = -1
      · have e1 : putF p a (.cons q b r) = .cons q b (putF p a r) := by rw [putF, if_pos c1]
        have e2 : putF o k (.cons q b r) = .cons q b (putF o k r) := by rw [putF, if_pos c2]
        rw [e1, e2, putF, if_pos c2, putF, if_pos c1, ih]
      · have e1 : putF p a (.cons q b r) = .cons q b (putF p a r) := by rw [putF, if_pos c1]
        have e2 : putF o k (.cons q b r) = .cons o k (.cons q b r) := by rw [putF, if_neg c2]
        have hop : cmpB o.name p.name = -1 := by
          have a1 := cmpB_anti q.name o.name
          have a2 := cmpB_val q.name o.name
          exact cmpB_lt (by omega) c1
        rw [e1, e2, putF, if_neg c2, putF, if_pos hop, e1]
    · by_cases c2 : cmpB q.name o.name = -1
      · have e1 : putF p a (.cons q b r) = .cons p a (.cons q b r) := by rw [putF, if_neg c1]
        have e2 : putF o k (.cons q b r) = .cons q b (putF o k r) := by rw [putF, if_pos c2]
        have hpo : cmpB p.name o.name = -1 := by
          have a1 := cmpB_anti q.name p.name
          have a2 := cmpB_val q.name p.name
          exact cmpB_lt (by omega) c2
        rw [e1, e2, putF, if_pos hpo, e2, putF, if_neg c1]
      · have e1 : putF p a (.cons q b r) = .cons p a (.cons q b r) := by rw [putF, if_neg c1]
        have e2 : putF o k (.cons q b r) = .cons o k (.cons q b r) := by rw [putF, if_neg c2]
        rw [e1, e2]
        rcases cmpB_val o.name p.name with h1 | h1 | h1
        · have e3 : putF o k (.cons p a (.cons q b r)) = .cons o k (.cons p a (.cons q b r)) := by rw [putF, if_neg (by omega)]
          rw [e3, putF, if_pos h1, e1]
        · exact absurd h1 h0
        · have e3 : putF p a (.cons o k (.cons q b r)) = .cons p a (.cons o k (.cons q b r)) := by rw [putF, if_neg (by omega)]
          rw [e3, putF, if_pos (by omega), e2]
/-- All of one forest put into a sorted other one, from the last on. -/
def pourF : Fo → Fo → Fo
  | .nil, S => S
  | .cons o k r, S => putF o (sortF k) (pourF r S)
theorem sort_pour (K : Fo) : sortF K = pourF K .nil := by
  induction K with
  | nil => rfl
  | cons o k r _ ir => rw [sortF, pourF, ir]
theorem tops_pour (K S : Fo) : ∀ y, y ∈ tops (pourF K S) ↔ y ∈ tops K ∨ y ∈ tops S := by
  induction K with
  | nil => intro y; simp [pourF, tops]
  | cons o k r _ ir =>
    intro y
    rw [pourF, tops_put, ir]
    simp only [tops, List.mem_cons]
    constructor
    · rintro (h | h | h)
      · exact .inl (.inl h)
      · exact .inl (.inr h)
      · exact .inr h
    · rintro ((h | h) | h)
      · exact .inl h
      · exact .inr (.inl h)
      · exact .inr (.inr h)
/-- Kids' kids in order. -/
def sortedKids : Fo → Prop
  | .nil => True
  | .cons o k r => okF (sortF k) ∧ sortedKids r
theorem pour_ok : ∀ {K S : Fo}, sortedKids K → okF S → (tops K).Nodup → (∀ y ∈ tops K, y ∉ tops S) → okF (pourF K S)
  | .nil, S, _, hS, _, _ => hS
  | .cons o k r, S, hK, hS, hd, hn => by
    simp only [tops, List.nodup_cons] at hd
    refine put_ok hK.1 (pour_ok hK.2 hS hd.2 (fun y hy => hn y (by simp [tops, hy]))) (fun h => ?_)
    rcases (tops_pour r S o.name).1 h with h | h
    · exact hd.1 h
    · exact hn o.name (by simp [tops]) h
theorem pour_put {o : Own} {k : Fo} : ∀ {K S : Fo}, sortedKids K → okF S → (tops K).Nodup → (∀ y ∈ tops K, y ∉ tops S) → o.name ∉ tops K → o.name ∉ tops S → pourF K (putF o k S) = putF o k (pourF K S)
  | .nil, S, _, _, _, _, _, _ => rfl
  | .cons p a r, S, hK, hS, hd, hn, h1, h2 => by
    simp only [tops, List.nodup_cons] at hd
    have ih := pour_put (o := o) (k := k) (K := r) hK.2 hS hd.2 (fun y hy => hn y (by simp [tops, hy])) (fun h => h1 (by simp [tops, h])) h2
    rw [pourF, pourF, ih]
    refine put_comm (fun e => h1 (by simp [tops, e])) (pour_ok hK.2 hS hd.2 (fun y hy => hn y (by simp [tops, hy]))) (fun h => ?_) (fun h => ?_)
    · rcases (tops_pour r S p.name).1 h with h | h
      · exact hd.1 h
      · exact hn p.name (by simp [tops]) h
    · rcases (tops_pour r S o.name).1 h with h | h
      · exact h1 (by simp [tops, h])
      · exact h2 h
theorem rev_cat (K acc : Fo) : revF K acc = catF (revF K .nil) acc := by
  induction K generalizing acc with
  | nil => rfl
  | cons o k r _ ir =>
    rw [revF, revF, ir, ir (.cons o (revF k .nil) .nil), cat_assoc]
    rfl
theorem tops_rev (K : Fo) : ∀ y, y ∈ tops (roundF K) ↔ y ∈ tops K := by
  induction K with
  | nil => intro y; simp [roundF, revF]
  | cons o k r _ ir =>
    intro y
    have : roundF (.cons o k r) = catF (roundF r) (.cons o (roundF k) .nil) := by unfold roundF; rw [revF, rev_cat]
    rw [this, tops_cat]
    simp only [tops, List.mem_append, List.mem_cons, List.not_mem_nil, or_false, ir]
    exact Or.comm
theorem pour_cat (K L S : Fo) : pourF (catF K L) S = pourF K (pourF L S) := by
  induction K with
  | nil => rfl
  | cons o k r _ ir => rw [catF, pourF, pourF, ir]
theorem ok_nodup {K : Fo} (h : okF K) : (tops K).Nodup := by
  induction K with
  | nil => simp [tops]
  | cons o k r _ ir =>
    obtain ⟨_, h2, h3⟩ := h
    simp only [tops, List.nodup_cons]
    exact ⟨fun hm => by have := h3 _ hm; rw [cmpB_self] at this; omega, ir h2⟩
theorem sorted_cat {K L : Fo} (h : sortedKids K) (k : sortedKids L) : sortedKids (catF K L) := by
  induction K with
  | nil => exact k
  | cons o a r _ ir => exact ⟨h.1, ir h.2⟩
theorem round_all {K : Fo} (h : okF K) : sortF (roundF K) = K ∧ sortedKids (roundF K) ∧ (tops (roundF K)).Nodup := by
  induction K with
  | nil => exact ⟨rfl, trivial, by simp [roundF, revF, tops]⟩
  | cons o k r ik ir =>
    obtain ⟨h1, h2, h3⟩ := h
    obtain ⟨hk, _, _⟩ := ik h1
    obtain ⟨hr, sr, nr⟩ := ir h2
    have hd := ok_nodup (K := .cons o k r) ⟨h1, h2, h3⟩
    simp only [tops, List.nodup_cons] at hd
    have e : roundF (.cons o k r) = catF (roundF r) (.cons o (roundF k) .nil) := by unfold roundF; rw [revF, rev_cat]
    have hno : o.name ∉ tops (roundF r) := fun hm => hd.1 ((tops_rev r _).1 hm)
    rw [e]
    refine ⟨?_, sorted_cat sr ⟨by rw [hk]; exact h1, trivial⟩, ?_⟩
    · rw [sort_pour, pour_cat, pourF, pourF, hk, pour_put (S := .nil) sr trivial nr (fun y _ => by simp [tops]) hno (by simp [tops]), ← sort_pour, hr, put_first h3]
    · rw [tops_cat]
      simp only [tops]
      rw [List.nodup_append]
      exact ⟨nr, by simp, fun a ha b hb => by simp at hb; subst hb; exact fun e => hno (e ▸ ha)⟩
/-- Sorted again, it is what it was. -/
theorem sort_round {K : Fo} (h : okF K) : sortF (roundF K) = K := (round_all h).1
end Go.Proofs.Ytanofmejokgijaa
