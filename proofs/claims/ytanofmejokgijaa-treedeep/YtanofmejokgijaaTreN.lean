/-
  What is put in again stays out; the names rise on; entries that may be built of are a forest's; how deep, how many; a forest out of its entries (of no program).
-/
import Derived.Test.YtanofmejokgijaaTreM
namespace Go.Proofs.Ytanofmejokgijaa
set_option linter.unusedVariables false

theorem ins_same (o' : Own) (K : Fo) (q : List (List UInt8)) (h : okF K) (hq : q ∈ (comps [] K).map (·.1)) : insF o' K q = K := by
  induction K generalizing q with
  | nil => simp [comps] at hq
  | cons o k r ik ir =>
    obtain ⟨h1, h2, h3⟩ := h
    match q with
    | [] => rfl
    | s :: t =>
      simp only [comps, List.nil_append, List.map_cons, List.map_append, List.mem_cons, List.mem_append] at hq
      rcases hq with hq | hq | hq
      · injection hq with e1 e2
        subst e1 e2
        rw [insF, if_neg (by rw [cmpB_self]; omega), if_pos (cmpB_self _), if_pos rfl]
      · rw [comps_pre] at hq
        obtain ⟨e, he, hq⟩ := List.mem_map.1 hq
        obtain ⟨e', he', rfl⟩ := List.mem_map.1 he
        injection hq with e1 e2
        subst e1
        have e2' : e'.1 = t := e2
        obtain ⟨n, q', g1, _⟩ := comps_top he'
        have ht : t ≠ [] := by rw [← e2', g1]; simp
        rw [insF, if_neg (by rw [cmpB_self]; omega), if_pos (cmpB_self _), if_neg ht, ik t h1 (List.mem_map.2 ⟨e', he', e2'⟩)]
      · have hs := h3 _ (mem_below hq)
        rw [insF, if_pos hs, ir (s :: t) h2 hq]
theorem tops_ins (o' : Own) (K : Fo) (s : List UInt8) (t : List (List UInt8)) (hn : (s :: t).getLast? = some o'.name) : ∀ y ∈ tops (insF o' K (s :: t)), y ∈ tops K ∨ y = o'.name := by
  induction K with
  | nil => intro y hy; simp [insF, tops] at hy; exact .inr hy
  | cons o k r ik ir =>
    intro y hy
    rw [insF] at hy
    split at hy
    · simp only [tops, List.mem_cons] at hy ⊢
      rcases hy with rfl | hy
      · exact .inl (.inl rfl)
      · rcases ir y hy with h | h
        · exact .inl (.inr h)
        · exact .inr h
    · split at hy
      · split at hy
        · exact .inl hy
        · exact .inl hy
      · simp only [tops, List.mem_cons] at hy ⊢
        rcases hy with rfl | hy
        · exact .inr rfl
        · exact .inl hy
theorem cmpB_lt {a b c : List UInt8} (h1 : cmpB a b = -1) (h2 : cmpB b c = -1) : cmpB a c = -1 := by
  have h3 := cmpB_trans a b c (by omega) (by omega)
  rcases cmpB_val a c with h | h | h
  · exact h
  · have := (cmpB_eq a c).1 h
    subst this
    have := cmpB_anti a b
    omega
  · omega
/-- The names rise on. -/
theorem ok_ins (o' : Own) (K : Fo) (q : List (List UInt8)) (h : okF K) (hq : q ≠ []) (hup : q.dropLast = [] ∨ q.dropLast ∈ (comps [] K).map (·.1)) (hn : q.getLast? = some o'.name) : okF (insF o' K q) := by
  induction K generalizing q with
  | nil => exact ⟨trivial, trivial, fun y hy => by simp [tops] at hy⟩
  | cons o k r ik ir =>
    obtain ⟨h1, h2, h3⟩ := h
    match q, hq with
    | s :: t, _ =>
      rw [insF]
      split
      · rename_i c1
        have hne : cmpB o.name s ≠ 0 := by omega
        have up' : (s :: t).dropLast = [] ∨ (s :: t).dropLast ∈ (comps [] r).map (·.1) := by
          rcases hup with h | h
          · exact .inl h
          · by_cases ht : t = []
            · subst ht; exact .inl rfl
            · right
              rw [List.dropLast_cons_of_ne_nil ht] at h ⊢
              simp only [comps, List.nil_append, List.map_cons, List.map_append, List.mem_cons, List.mem_append] at h
              rcases h with h | h | h
              · injection h with h _; exact absurd ((cmpB_eq _ _).2 h.symm) hne
              · rw [comps_pre] at h
                obtain ⟨e, he, h⟩ := List.mem_map.1 h
                obtain ⟨e', _, rfl⟩ := List.mem_map.1 he
                injection h with h _; exact absurd ((cmpB_eq _ _).2 h) hne
              · exact h
        refine ⟨h1, ir (s :: t) h2 (by simp) up' hn, fun y hy => ?_⟩
        by_cases ht : t = []
        · subst ht
          rcases tops_ins o' r s [] hn y hy with h | h
          · exact h3 y h
          · simp at hn
            rw [h, ← hn]; exact c1
        · -- the place is below one of r's: its tops stay
          have hs : s ∈ tops r := by
            rcases up' with h | h
            · rw [List.dropLast_cons_of_ne_nil ht] at h; cases h
            · rw [List.dropLast_cons_of_ne_nil ht] at h; exact mem_below h
          have stay : ∀ (R : Fo), okF R → s ∈ tops R → tops (insF o' R (s :: t)) = tops R := fun R => by
            induction R with
            | nil => intro _ h; simp [tops] at h
            | cons p a b _ ib =>
              intro hR hm
              obtain ⟨_, g2, g3⟩ := hR
              rw [insF]
              split
              · rename_i d1
                simp only [tops, List.mem_cons] at hm ⊢
                rcases hm with rfl | hm
                · rw [cmpB_self] at d1; omega
                · rw [ib g2 hm]
              · split
                · rfl
                · rename_i d1 d2
                  simp only [tops, List.mem_cons] at hm
                  rcases hm with rfl | hm
                  · exact absurd (cmpB_self _) d2
                  · exact absurd (g3 s hm) d1
          rw [stay r h2 hs] at hy
          exact h3 y hy
      · split
        · rename_i c1 c2
          have e := (cmpB_eq _ _).1 c2
          subst e
          split
          · exact ⟨h1, h2, h3⟩
          · rename_i ht
            have up' : t.dropLast = [] ∨ t.dropLast ∈ (comps [] k).map (·.1) := by
              rcases hup with h | h
              · rw [List.dropLast_cons_of_ne_nil ht] at h; cases h
              · rw [List.dropLast_cons_of_ne_nil ht] at h
                by_cases hd : t.dropLast = []
                · exact .inl hd
                · right
                  simp only [comps, List.nil_append, List.map_cons, List.map_append, List.mem_cons, List.mem_append] at h
                  rcases h with h | h | h
                  · injection h with _ h; exact absurd h hd
                  · rw [comps_pre] at h
                    obtain ⟨e, he, h⟩ := List.mem_map.1 h
                    obtain ⟨e', he', rfl⟩ := List.mem_map.1 he
                    injection h with _ h
                    exact List.mem_map.2 ⟨e', he', h⟩
                  · have := h3 _ (mem_below h)
                    rw [cmpB_self] at this; omega
            exact ⟨ik t h1 ht up' (by rwa [List.getLast?_cons_of_ne_nil ht] at hn), h2, h3⟩
        · rename_i c1 c2
          have c3 : cmpB o.name s = 1 := by rcases cmpB_val o.name s with h | h | h; exact absurd h c1; exact absurd h c2; exact h
          have a2 := cmpB_anti o.name s
          have hlow : ∀ n, n ∈ tops (.cons o k r) → cmpB s n = -1 := fun n hn => by
            simp only [tops, List.mem_cons] at hn
            rcases hn with rfl | hn
            · omega
            · exact cmpB_lt (by omega) (h3 n hn)
          have ht : t = [] := by
            apply Classical.byContradiction
            intro ht
            rcases hup with h | h
            · rw [List.dropLast_cons_of_ne_nil ht] at h; cases h
            · rw [List.dropLast_cons_of_ne_nil ht] at h
              have := hlow _ (mem_below h)
              rw [cmpB_self] at this; omega
          subst ht
          simp at hn
          refine ⟨trivial, ⟨h1, h2, h3⟩, fun y hy => ?_⟩
          rw [← hn]
          exact hlow y hy

/-- Rows of entries, each behind the ones ahead, each below one of those ahead: they are a forest's. -/
theorem forest_of : ∀ (R : List (List (List UInt8) × Own)), List.Pairwise (fun a b => cmpL a.1 b.1 = -1) R → (∀ i e, R[i]? = some e → e.1 ≠ [] ∧ e.1.getLast? = some e.2.name ∧ (e.1.dropLast = [] ∨ e.1.dropLast ∈ (R.take i).map (·.1))) →
    ∃ K, okF K ∧ comps [] K = R := by
  intro R
  induction hn : R.length generalizing R with
  | zero =>
    intro _ _
    rw [List.length_eq_zero_iff] at hn
    subst hn
    exact ⟨.nil, trivial, rfl⟩
  | succ m ih =>
    intro hp hc
    obtain ⟨I, e, rfl⟩ : ∃ I e, R = I ++ [e] := by
      have h0 : R ≠ [] := by intro h; subst h; simp at hn
      exact ⟨R.dropLast, R.getLast h0, (List.dropLast_concat_getLast h0).symm⟩
    have hI : I.length = m := by simpa using hn
    obtain ⟨pI, _, pe⟩ := List.pairwise_append.1 hp
    obtain ⟨K, hK, hKI⟩ := ih I hI pI (fun i x hx => by
      have hlt : i < I.length := (List.getElem?_eq_some_iff.1 hx).1
      have h1 := hc i x (by rw [List.getElem?_append_left hlt]; exact hx)
      rw [List.take_append_of_le_length (by omega)] at h1
      exact h1)
    obtain ⟨g1, g2, g3⟩ := hc I.length e (by simp)
    rw [List.take_left] at g3
    have hbef : ∀ a ∈ I, cmpL a.1 e.1 = -1 := fun a ha => pe a ha e (by simp)
    have hnot : e.1 ∉ (comps [] K).map (·.1) := fun h => by
      rw [hKI] at h
      obtain ⟨a, ha, h⟩ := List.mem_map.1 h
      have := hbef a ha
      rw [h, (cmpL_eq _ _).2 rfl] at this
      omega
    rw [← hKI] at g3
    refine ⟨insF e.2 K e.1, ok_ins e.2 K e.1 hK g1 g3 g2, ?_⟩
    rw [ins_comps e.2 K e.1 hK g1 g3 g2 hnot, hKI]
    have := insS_skip (A := I) (L := []) (e := e) hbef
    rw [List.append_nil] at this
    rw [this]
    rfl

/-- How deep each one is, and its own fields. -/
def flatD (d : Nat) : Fo → List (Nat × Own)
  | .nil => []
  | .cons o k r => (d, o) :: (flatD (d + 1) k ++ flatD d r)
def sizeF : Fo → Nat
  | .nil => 0
  | .cons o k r => 1 + sizeF k + sizeF r
def deepF : Fo → Nat
  | .nil => 0
  | .cons o k r => max (1 + deepF k) (deepF r)
theorem flatD_len (K : Fo) (d : Nat) : (flatD d K).length = sizeF K := by
  induction K generalizing d with
  | nil => rfl
  | cons o k r ik ir => simp [flatD, sizeF, ik, ir]; omega
theorem comps_len (K : Fo) (b : List (List UInt8)) : (comps b K).length = sizeF K := by
  induction K generalizing b with
  | nil => rfl
  | cons o k r ik ir => simp [comps, sizeF, ik, ir]; omega
theorem comps_flat (K : Fo) (b : List (List UInt8)) : (comps b K).map (fun e => (e.1.length, e.2)) = flatD (b.length + 1) K := by
  induction K generalizing b with
  | nil => rfl
  | cons o k r ik ir => simp [comps, flatD, ik, ir]
theorem flatD_deep (K : Fo) (d : Nat) : ∀ e ∈ flatD d K, d ≤ e.1 ∧ e.1 < d + deepF K := by
  induction K generalizing d with
  | nil => simp [flatD]
  | cons o k r ik ir =>
    intro e he
    simp only [flatD, List.mem_cons, List.mem_append] at he
    simp only [deepF]
    rcases he with rfl | he | he
    · exact ⟨Nat.le_refl _, by show d < _; omega⟩
    · have := ik (d + 1) e he; omega
    · have := ir d e he; omega
/-- A forest out of the front of a row: what is at least so deep; n: enough rounds. -/
def parseF : Nat → Nat → List (Nat × Own) → Fo × List (Nat × Own)
  | 0, _, l => (.nil, l)
  | n + 1, d, [] => (.nil, [])
  | n + 1, d, (x, o) :: l => if x < d then (.nil, (x, o) :: l) else
      let a := parseF n (d + 1) l
      let b := parseF n d a.2
      (.cons o a.1 b.1, b.2)
theorem parse_flat (K : Fo) : ∀ (n d : Nat) (rest : List (Nat × Own)), sizeF K < n → (∀ e, rest.head? = some e → e.1 < d) → parseF n d (flatD d K ++ rest) = (K, rest) := by
  induction K with
  | nil =>
    intro n d rest hn hr
    match n, hn with
    | n + 1, _ =>
      cases rest with
      | nil => rfl
      | cons e rest =>
        have := hr e rfl
        obtain ⟨x, o⟩ := e
        simp only [flatD, List.nil_append, parseF]
        rw [if_pos this]
  | cons o k r ik ir =>
    intro n d rest hn hr
    simp only [sizeF] at hn
    match n, hn with
    | n + 1, hn =>
      simp only [flatD, List.cons_append, parseF, List.append_assoc]
      rw [if_neg (by omega)]
      have h1 := ik n (d + 1) (flatD d r ++ rest) (by omega) (fun e he => by
        cases hq : flatD d r with
        | nil => rw [hq, List.nil_append] at he; have := hr e he; omega
        | cons y ys =>
          rw [hq] at he
          simp at he
          have := flatD_deep r d e (by rw [hq, he]; simp)
          cases r with
          | nil => simp [flatD] at hq
          | cons p a b => simp only [flatD] at hq; injection hq with hq _; rw [← he, ← hq]; exact Nat.lt_succ_self _)
      rw [h1]
      have h2 := ir n d rest (by omega) hr
      simp only [h2]
/-- Two forests of the same depths and fields are the same. -/
theorem flatD_inj {K L : Fo} {d : Nat} (h : flatD d K = flatD d L) : K = L := by
  have h1 := parse_flat K (sizeF K + 1) d [] (by omega) (by simp)
  have hs : sizeF K = sizeF L := by rw [← flatD_len K d, h, flatD_len]
  have h2 := parse_flat L (sizeF K + 1) d [] (by omega) (by simp)
  rw [h, h2] at h1
  injection h1 with h1 _
  exact h1.symm
end Go.Proofs.Ytanofmejokgijaa
