/-
  Trees as forests, their entries by the rows of names that lead there, what is put into them (of no program).
-/
import Derived.Test.YtanofmejokgijaaPathM
namespace Go.Proofs.Ytanofmejokgijaa
set_option linter.unusedVariables false

/-- A node's own fields. -/
structure Own where
  kind : Int
  name : List UInt8
  mode : Int
  uid : Int
  gid : Int
  mtime : Int
  data : List UInt8
  target : List UInt8
  major : Int
  minor : Int
  attrs : List (List UInt8 × List UInt8)
/-- A directory's kids: one's own fields, its kids, and the kids behind it. -/
inductive Fo where
  | nil : Fo
  | cons : Own → Fo → Fo → Fo

/-- All entries: the names that lead there, the node's own fields. -/
def comps (b : List (List UInt8)) : Fo → List (List (List UInt8) × Own)
  | .nil => []
  | .cons o k r => (b ++ [o.name], o) :: (comps (b ++ [o.name]) k ++ comps b r)
def tops : Fo → List (List UInt8)
  | .nil => []
  | .cons o k r => o.name :: tops r
/-- At every depth the names rise. -/
def okF : Fo → Prop
  | .nil => True
  | .cons o k r => okF k ∧ okF r ∧ ∀ y ∈ tops r, cmpB o.name y = -1
/-- A node put in at a path. -/
def insF (o' : Own) : Fo → List (List UInt8) → Fo
  | .nil, _ => .cons o' .nil .nil
  | .cons o k r, [] => .cons o k r
  | .cons o k r, s :: q => if cmpB o.name s = -1 then .cons o k (insF o' r (s :: q)) else if cmpB o.name s = 0 then (if q = [] then .cons o k r else .cons o (insF o' k q) r) else .cons o' .nil (.cons o k r)

theorem comps_pre (K : Fo) (b : List (List UInt8)) : comps b K = (comps [] K).map fun e => (b ++ e.1, e.2) := by
  induction K generalizing b with
  | nil => rfl
  | cons o k r ik ir =>
    have h1 := ik (b ++ [o.name])
    have h2 := ik [o.name]
    have h3 := ir b
    simp only [comps, List.nil_append, List.map_cons, List.map_append]
    rw [h1, h2, h3]
    simp [List.map_map, Function.comp_def]
theorem cmpL_pre (b x y : List (List UInt8)) : cmpL (b ++ x) (b ++ y) = cmpL x y := by
  induction b with
  | nil => rfl
  | cons a b ih => rw [List.cons_append, List.cons_append, cmpL, if_pos ((cmpB_eq a a).2 rfl), ih]
theorem cmpL_head {a b : List UInt8} {x y : List (List UInt8)} (h : cmpB a b ≠ 0) : cmpL (a :: x) (b :: y) = cmpB a b := by rw [cmpL, if_neg h]
/-- Every entry's row of names begins with one of the tops. -/
theorem comps_top {K : Fo} {e : List (List UInt8) × Own} (h : e ∈ comps [] K) : ∃ n q, e.1 = n :: q ∧ n ∈ tops K := by
  induction K with
  | nil => simp [comps] at h
  | cons o k r ik ir =>
    simp only [comps, List.nil_append, List.mem_cons, List.mem_append] at h
    rcases h with rfl | h | h
    · exact ⟨o.name, [], rfl, by simp [tops]⟩
    · rw [comps_pre] at h
      obtain ⟨e', _, rfl⟩ := List.mem_map.1 h
      exact ⟨o.name, e'.1, rfl, by simp [tops]⟩
    · obtain ⟨n, q, h1, h2⟩ := ir h
      exact ⟨n, q, h1, by simp [tops, h2]⟩
theorem top_in {K : Fo} {n : List UInt8} (h : n ∈ tops K) : ∃ o, ([n], o) ∈ comps [] K := by
  induction K with
  | nil => simp [tops] at h
  | cons o k r ik ir =>
    simp only [tops, List.mem_cons] at h
    rcases h with rfl | h
    · exact ⟨o, by simp [comps]⟩
    · obtain ⟨o', h'⟩ := ir h
      exact ⟨o', by simp [comps, h']⟩

/-- Where the entries stand: each one ahead of the next ones. -/
theorem comps_row {K : Fo} (h : okF K) : List.Pairwise (fun a b => cmpL a.1 b.1 = -1) (comps [] K) := by
  induction K with
  | nil => exact List.Pairwise.nil
  | cons o k r ik ir =>
    obtain ⟨h1, h2, h3⟩ := h
    have pk : List.Pairwise (fun a b => cmpL a.1 b.1 = -1) (comps [o.name] k) := by
      rw [comps_pre, List.pairwise_map]
      refine (ik h1).imp fun {a b} hab => ?_
      show cmpL ([o.name] ++ a.1) ([o.name] ++ b.1) = -1
      rw [cmpL_pre]; exact hab
    have hkr : ∀ a ∈ comps [o.name] k, ∀ b ∈ comps [] r, cmpL a.1 b.1 = -1 := fun a ha b hb => by
      rw [comps_pre] at ha
      obtain ⟨a', _, rfl⟩ := List.mem_map.1 ha
      obtain ⟨n, q, e1, e2⟩ := comps_top hb
      rw [e1]
      show cmpL (o.name :: a'.1) (n :: q) = -1
      have := h3 n e2
      rw [cmpL_head (by omega), this]
    simp only [comps, List.nil_append]
    refine List.Pairwise.cons (fun b hb => ?_) (List.pairwise_append.2 ⟨pk, ir h2, hkr⟩)
    rcases List.mem_append.1 hb with hb | hb
    · rw [comps_pre] at hb
      obtain ⟨b', hb', rfl⟩ := List.mem_map.1 hb
      obtain ⟨n, q, e1, _⟩ := comps_top hb'
      show cmpL [o.name] ([o.name] ++ b'.1) = -1
      exact cmpL_prefix [o.name] b'.1 (by rw [e1]; simp)
    · obtain ⟨n, q, e1, e2⟩ := comps_top hb
      rw [e1]
      have := h3 n e2
      rw [cmpL_head (by omega), this]

/-- An entry put in where it stands. -/
def insS (L : List (List (List UInt8) × Own)) (e : List (List UInt8) × Own) : List (List (List UInt8) × Own) :=
  L.takeWhile (fun x => decide (cmpL x.1 e.1 = -1)) ++ e :: L.dropWhile (fun x => decide (cmpL x.1 e.1 = -1))
theorem insS_skip {A L : List (List (List UInt8) × Own)} {e : List (List UInt8) × Own} (h : ∀ a ∈ A, cmpL a.1 e.1 = -1) : insS (A ++ L) e = A ++ insS L e := by
  induction A with
  | nil => rfl
  | cons a A ih =>
    have ha := h a (by simp)
    have hA := ih (fun x hx => h x (by simp [hx]))
    unfold insS at hA ⊢
    simp only [List.cons_append, List.takeWhile_cons, List.dropWhile_cons, ha, decide_true, if_true]
    rw [hA]
theorem insS_end {A L : List (List (List UInt8) × Own)} {e : List (List UInt8) × Own} (h : ∀ a ∈ L, cmpL a.1 e.1 ≠ -1) : insS (A ++ L) e = insS A e ++ L := by
  induction A with
  | nil =>
    cases L with
    | nil => simp [insS]
    | cons a L => have := h a (by simp); simp [insS, this]
  | cons a A ih =>
    unfold insS at ih ⊢
    by_cases ha : cmpL a.1 e.1 = -1
    · simp only [List.cons_append, List.takeWhile_cons, List.dropWhile_cons, ha, decide_true, if_true]
      rw [ih]
    · simp [ha]
theorem insS_map {A : List (List (List UInt8) × Own)} {b : List (List UInt8)} {q : List (List UInt8)} {o : Own} :
    insS (A.map fun e => (b ++ e.1, e.2)) (b ++ q, o) = (insS A (q, o)).map fun e => (b ++ e.1, e.2) := by
  unfold insS
  rw [List.map_append, List.map_cons]
  have h : ∀ x : List (List UInt8) × Own, decide (cmpL (b ++ x.1) (b ++ q) = -1) = decide (cmpL x.1 q = -1) := fun x => by rw [cmpL_pre]
  rw [List.takeWhile_map, List.dropWhile_map]
  simp only [Function.comp_def, h]

theorem mem_below {K : Fo} {n : List UInt8} {q : List (List UInt8)} (h : n :: q ∈ (comps [] K).map (·.1)) : n ∈ tops K := by
  obtain ⟨e, he, h1⟩ := List.mem_map.1 h
  obtain ⟨m, q', e1, e2⟩ := comps_top he
  rw [e1] at h1
  injection h1 with h1 _
  rw [← h1]; exact e2
theorem cmpB_self (x : List UInt8) : cmpB x x = 0 := (cmpB_eq x x).2 rfl

/-- What is put in stands where it should. -/
theorem ins_comps (o' : Own) (K : Fo) (q : List (List UInt8)) (h : okF K) (hq : q ≠ []) (hup : q.dropLast = [] ∨ q.dropLast ∈ (comps [] K).map (·.1)) (hn : q.getLast? = some o'.name) (hnot : q ∉ (comps [] K).map (·.1)) :
    comps [] (insF o' K q) = insS (comps [] K) (q, o') := by
  induction K generalizing q with
  | nil =>
    have hd : q.dropLast = [] := by rcases hup with h | h; exact h; simp [comps] at h
    match q, hq, hd, hn with
    | [s], _, _, hn =>
      simp at hn
      subst hn
      simp [insF, comps, insS]
  | cons o k r ik ir =>
    obtain ⟨h1, h2, h3⟩ := h
    match q, hq with
    | s :: t, _ =>
      by_cases c1 : cmpB o.name s = -1
      · have hne : cmpB o.name s ≠ 0 := by omega
        have up' : (s :: t).dropLast = [] ∨ (s :: t).dropLast ∈ (comps [] r).map (·.1) := by
          rcases hup with h | h
          · exact .inl h
          · by_cases ht : t = []
            · subst ht; exact .inl rfl
            · right
              rw [List.dropLast_cons_of_ne_nil ht] at h ⊢
              simp only [comps, List.nil_append, List.map_cons, List.map_append, List.mem_cons, List.mem_append] at h
              rcases h with h | h | h
              · injection h with h _; exact absurd ((cmpB_eq _ _).2 h.symm) hne
              · rw [comps_pre] at h
                obtain ⟨e, he, h⟩ := List.mem_map.1 h
                obtain ⟨e', _, rfl⟩ := List.mem_map.1 he
                injection h with h _; exact absurd ((cmpB_eq _ _).2 h) hne
              · exact h
        have not' : (s :: t) ∉ (comps [] r).map (·.1) := fun hm => hnot (by simp only [comps, List.nil_append, List.map_cons, List.map_append, List.mem_cons, List.mem_append]; exact .inr (.inr hm))
        have ih := ir (s :: t) h2 (by simp) up' hn not'
        rw [insF, if_pos c1]
        simp only [comps, List.nil_append]
        rw [ih, ← List.cons_append, ← List.cons_append, insS_skip]
        intro a ha
        rcases List.mem_cons.1 ha with rfl | ha
        · show cmpL [o.name] (s :: t) = -1
          rw [cmpL_head hne, c1]
        · rw [comps_pre] at ha
          obtain ⟨a', _, rfl⟩ := List.mem_map.1 ha
          show cmpL (o.name :: a'.1) (s :: t) = -1
          rw [cmpL_head hne, c1]
      · by_cases c2 : cmpB o.name s = 0
        · have e := (cmpB_eq _ _).1 c2
          subst e
          by_cases ht : t = []
          · subst ht
            exact absurd (by simp [comps]) hnot
          · have up' : t.dropLast = [] ∨ t.dropLast ∈ (comps [] k).map (·.1) := by
              rcases hup with h | h
              · rw [List.dropLast_cons_of_ne_nil ht] at h; cases h
              · rw [List.dropLast_cons_of_ne_nil ht] at h
                by_cases hd : t.dropLast = []
                · exact .inl hd
                · right
                  simp only [comps, List.nil_append, List.map_cons, List.map_append, List.mem_cons, List.mem_append] at h
                  rcases h with h | h | h
                  · injection h with _ h; exact absurd h hd
                  · rw [comps_pre] at h
                    obtain ⟨e, he, h⟩ := List.mem_map.1 h
                    obtain ⟨e', he', rfl⟩ := List.mem_map.1 he
                    injection h with _ h
                    exact List.mem_map.2 ⟨e', he', h⟩
                  · have := h3 _ (mem_below h)
                    rw [cmpB_self] at this; omega
            have not' : t ∉ (comps [] k).map (·.1) := fun hm => hnot (by
              obtain ⟨e, he, h⟩ := List.mem_map.1 hm
              simp only [comps, List.nil_append, List.map_cons, List.map_append, List.mem_cons, List.mem_append]
              refine .inr (.inl ?_)
              rw [comps_pre]
              exact List.mem_map.2 ⟨([o.name] ++ e.1, e.2), List.mem_map.2 ⟨e, he, rfl⟩, by show [o.name] ++ e.1 = _; rw [h]; rfl⟩)
            have hn' : t.getLast? = some o'.name := by rwa [List.getLast?_cons_of_ne_nil ht] at hn
            have ih := ik t h1 ht up' hn' not'
            rw [insF, if_neg c1, if_pos c2, if_neg ht]
            simp only [comps, List.nil_append]
            have hk : comps [o.name] (insF o' k t) = insS (comps [o.name] k) (o.name :: t, o') := by
              rw [comps_pre (insF o' k t) [o.name], ih, comps_pre k [o.name], ← insS_map]
              rfl
            have hend : ∀ a ∈ comps [] r, cmpL a.1 (o.name :: t) ≠ -1 := fun a ha => by
              obtain ⟨n, q', e1, e2⟩ := comps_top ha
              have h5 := h3 n e2
              have h6 := cmpB_anti o.name n
              rw [e1, cmpL_head (by omega)]
              omega
            have hone := insS_skip (A := [([o.name], o)]) (L := comps [o.name] k ++ comps [] r) (e := (o.name :: t, o')) (by
              intro a ha
              simp at ha
              subst ha
              exact cmpL_prefix [o.name] t ht)
            rw [hk]
            rw [List.singleton_append, List.singleton_append] at hone
            rw [hone, insS_end hend]
        · have c3 : cmpB o.name s = 1 := by rcases cmpB_val o.name s with h | h | h; exact absurd h c1; exact absurd h c2; exact h
          have hlow : ∀ n, n ∈ tops (.cons o k r) → cmpB n s = 1 := fun n hn => by
            simp only [tops, List.mem_cons] at hn
            rcases hn with rfl | hn
            · exact c3
            · have a1 := h3 n hn
              have a2 := cmpB_anti o.name s
              have a3 := cmpB_trans s o.name n (by omega) (by omega)
              have a4 := cmpB_anti s n
              have a5 := cmpB_eq s n
              rcases cmpB_val n s with h | h | h
              · omega
              · have : s = n := a5.1 (by omega)
                subst this
                have := cmpB_anti o.name s
                omega
              · exact h
          have ht : t = [] := by
            apply Classical.byContradiction
            intro ht
            rcases hup with h | h
            · rw [List.dropLast_cons_of_ne_nil ht] at h; cases h
            · rw [List.dropLast_cons_of_ne_nil ht] at h
              have := hlow _ (mem_below h)
              rw [cmpB_self] at this; omega
          subst ht
          simp at hn
          subst hn
          rw [insF, if_neg c1, if_neg c2]
          have hend := insS_end (A := []) (L := comps [] (.cons o k r)) (e := ([o'.name], o')) (fun a ha => by
            obtain ⟨n, q', e1, e2⟩ := comps_top ha
            have h5 := hlow n e2
            rw [e1, cmpL_head (by omega)]
            omega)
          rw [List.nil_append] at hend
          rw [hend]
          simp [comps, insS]
end Go.Proofs.Ytanofmejokgijaa
