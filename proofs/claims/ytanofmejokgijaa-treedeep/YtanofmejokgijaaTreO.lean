/-
  Which trees may be; trees made of any numbers (the reference's Row, as forests): what they keep (of no program).
-/
import Derived.Test.YtanofmejokgijaaTreN
namespace Go.Proofs.Ytanofmejokgijaa
set_option linter.unusedVariables false

def attrsB (last : List UInt8) : List (List UInt8 × List UInt8) → Bool
  | [] => true
  | a :: l => nameB a.1 && decide (cmpB last a.1 = -1) && decide (a.2.length ≤ 24) && attrsB a.1 l
/-- May a node's own fields be? -/
def ownB (o : Own) : Bool :=
  decide (1 ≤ o.kind ∧ o.kind ≤ 4 ∧ 0 ≤ o.mode ∧ o.mode ≤ 4095 ∧ 0 ≤ o.uid ∧ o.uid ≤ 2147483647 ∧ 0 ≤ o.gid ∧ o.gid ≤ 2147483647 ∧ 0 ≤ o.mtime ∧ o.mtime ≤ 1099511627776 ∧ o.attrs.length ≤ 4) &&
  attrsB [] o.attrs && (decide (o.kind = 2) || decide (o.data.length = 0)) && (decide (o.kind = 3) || decide (o.target.length = 0)) && (decide (o.kind = 4) || decide (o.major = 0 ∧ o.minor = 0)) &&
  (if o.kind = 3 then o.target.all (fun c => c != 0) && decide (0 < o.target.length ∧ o.target.length < 65) else decide (o.data.length < 4097 ∧ 0 ≤ o.major ∧ o.major < 256 ∧ 0 ≤ o.minor ∧ o.minor < 256))
/-- May kids be, of a node of this kind, behind this name? -/
def formF (pk : Int) (last : List UInt8) : Fo → Bool
  | .nil => true
  | .cons o k r => ownB o && nameB o.name && decide (pk = 1) && decide (cmpB last o.name = -1) && formF o.kind [] k && formF pk o.name r
def mayOf (ro : Own) (K : Fo) : Nat :=
  if ro.kind = 1 ∧ ro.name = [] ∧ ownB ro = true ∧ formF ro.kind [] K = true then (if 6 < deepF K ∨ 63 < sizeF K then 3 else 0) else 2

theorem cmpB_nil {x : List UInt8} (h : x ≠ []) : cmpB [] x = -1 := by
  cases x with
  | nil => exact absurd rfl h
  | cons a x => rfl
theorem name_ne {x : List UInt8} (h : nameB x = true) : x ≠ [] := (name_free h).2

/-- A root without anything. -/
def rootOwn : Own := ⟨1, [], 493, 0, 0, 0, [], [], 0, 0, []⟩
theorem root_own : ownB rootOwn = true := by decide +kernel
def allE (K : Fo) : List (List (List UInt8) × Own) := ([], rootOwn) :: comps [] K
theorem all_row {K : Fo} (h : okF K) : List.Pairwise (fun a b => cmpL a.1 b.1 = -1) (allE K) := by
  refine List.Pairwise.cons (fun e he => ?_) (comps_row h)
  obtain ⟨n, q, e1, _⟩ := comps_top he
  rw [e1]; rfl
/-- What a made forest keeps. -/
structure Good (K : Fo) : Prop where
  ok : okF K
  name : ∀ e ∈ comps [] K, ∀ x ∈ e.1, nameB x = true
  deep : ∀ e ∈ comps [] K, e.1.length ≤ 6
  own : ∀ e ∈ comps [] K, ownB e.2 = true
  last : ∀ e ∈ comps [] K, e.1.getLast? = some e.2.name
  up : ∀ e ∈ comps [] K, e.1.dropLast = [] ∨ ∃ u ∈ comps [] K, u.1 = e.1.dropLast ∧ u.2.kind = 1
theorem Good.nil : Good .nil := ⟨trivial, by simp [comps], by simp [comps], by simp [comps], by simp [comps], by simp [comps]⟩
theorem mem_insS {L : List (List (List UInt8) × Own)} {e x : List (List UInt8) × Own} (h : x ∈ insS L e) : x ∈ L ∨ x = e := by
  unfold insS at h
  rcases List.mem_append.1 h with h | h
  · exact .inl (List.takeWhile_subset _ h)
  · rcases List.mem_cons.1 h with h | h
    · exact .inr h
    · exact .inl (List.dropWhile_subset _ h)
theorem mem_insS_old {L : List (List (List UInt8) × Own)} {e x : List (List UInt8) × Own} (h : x ∈ L) : x ∈ insS L e := by
  unfold insS
  rw [← List.takeWhile_append_dropWhile (p := fun x => decide (cmpL x.1 e.1 = -1)) (l := L)] at h
  rcases List.mem_append.1 h with h | h
  · exact List.mem_append_left _ h
  · exact List.mem_append_right _ (List.mem_cons_of_mem _ h)
theorem ins_len {L : List (List (List UInt8) × Own)} {e : List (List UInt8) × Own} : (insS L e).length = L.length + 1 := by
  unfold insS
  have := congrArg List.length (List.takeWhile_append_dropWhile (p := fun x => decide (cmpL x.1 e.1 = -1)) (l := L))
  simp only [List.length_append, List.length_cons] at this ⊢
  omega

/-- A node put below an entry that is a directory. -/
theorem good_ins {K : Fo} (h : Good K) (u : List (List UInt8) × Own) (hu : u ∈ allE K) (hk : u.2.kind = 1) (hd : u.1.length ≤ 5) (o : Own) (ho : ownB o = true) (hn : nameB o.name = true) : Good (insF o K (u.1 ++ [o.name])) ∧ sizeF (insF o K (u.1 ++ [o.name])) ≤ sizeF K + 1 := by
  have hq : u.1 ++ [o.name] ≠ [] := by simp
  have hdl : (u.1 ++ [o.name]).dropLast = u.1 := by simp
  have hup : (u.1 ++ [o.name]).dropLast = [] ∨ (u.1 ++ [o.name]).dropLast ∈ (comps [] K).map (·.1) := by
    rw [hdl]
    rcases List.mem_cons.1 hu with rfl | hu
    · exact .inl rfl
    · exact .inr (List.mem_map.2 ⟨u, hu, rfl⟩)
  have hla : (u.1 ++ [o.name]).getLast? = some o.name := by simp
  by_cases hin : u.1 ++ [o.name] ∈ (comps [] K).map (·.1)
  · rw [ins_same o K _ h.ok hin]
    exact ⟨h, by omega⟩
  · have hc := ins_comps o K _ h.ok hq hup hla hin
    have hmem : ∀ e ∈ comps [] (insF o K (u.1 ++ [o.name])), e ∈ comps [] K ∨ e = (u.1 ++ [o.name], o) := fun e he => by rw [hc] at he; exact mem_insS he
    have hold : ∀ e ∈ comps [] K, e ∈ comps [] (insF o K (u.1 ++ [o.name])) := fun e he => by rw [hc]; exact mem_insS_old he
    refine ⟨⟨ok_ins o K _ h.ok hq hup hla, fun e he => ?_, fun e he => ?_, fun e he => ?_, fun e he => ?_, fun e he => ?_⟩, ?_⟩
    · rcases hmem e he with h1 | rfl
      · exact h.name e h1
      · intro x hx
        rcases List.mem_append.1 hx with hx | hx
        · rcases List.mem_cons.1 hu with rfl | hu
          · simp at hx
          · exact h.name u hu x hx
        · simp at hx; rw [hx]; exact hn
    · rcases hmem e he with h1 | rfl
      · exact h.deep e h1
      · simp; omega
    · rcases hmem e he with h1 | rfl
      · exact h.own e h1
      · exact ho
    · rcases hmem e he with h1 | rfl
      · exact h.last e h1
      · exact hla
    · rcases hmem e he with h1 | rfl
      · rcases h.up e h1 with h2 | ⟨v, h2, h3, h4⟩
        · exact .inl h2
        · exact .inr ⟨v, hold v h2, h3, h4⟩
      · show (u.1 ++ [o.name]).dropLast = [] ∨ _
        rw [hdl]
        rcases List.mem_cons.1 hu with rfl | hu
        · exact .inl rfl
        · exact .inr ⟨u, hold u hu, rfl, hk⟩
    · have := congrArg List.length hc
      rw [comps_len, ins_len, comps_len] at this
      omega

/-- Where it stands in the row: the first one that is not ahead of it. -/
theorem row_place {K : Fo} (h : Good K) (u : List (List UInt8) × Own) (hu : u ∈ allE K) (o : Own) :
    let q := u.1 ++ [o.name]
    let k := ((allE K).takeWhile fun x => decide (cmpL x.1 q = -1)).length
    (∀ e, (allE K)[k]? = some e → e.1 = q → insF o K q = K) ∧ ((∀ e, (allE K)[k]? = some e → e.1 ≠ q) → allE (insF o K q) = (allE K).take k ++ (q, o) :: (allE K).drop k) := by
  intro q k
  have hq : q ≠ [] := by simp [q]
  have hdl : q.dropLast = u.1 := by simp [q]
  have hup : q.dropLast = [] ∨ q.dropLast ∈ (comps [] K).map (·.1) := by
    rw [hdl]
    rcases List.mem_cons.1 hu with rfl | hu
    · exact .inl rfl
    · exact .inr (List.mem_map.2 ⟨u, hu, rfl⟩)
  have hla : q.getLast? = some o.name := by simp [q]
  have hroot : cmpL [] q = -1 := by
    cases hqq : q with
    | nil => exact absurd hqq hq
    | cons a b => rfl
  have hsplit : (allE K).take k = (allE K).takeWhile (fun x => decide (cmpL x.1 q = -1)) ∧ (allE K).drop k = (allE K).dropWhile (fun x => decide (cmpL x.1 q = -1)) := by
    have hs := List.takeWhile_append_dropWhile (p := fun x : List (List UInt8) × Own => decide (cmpL x.1 q = -1)) (l := allE K)
    constructor
    · conv => lhs; rw [← hs]
      exact List.take_left
    · conv => lhs; rw [← hs]
      exact List.drop_left
  refine ⟨fun e he hee => ?_, fun hno => ?_⟩
  · refine ins_same o K q h.ok ?_
    have hm := List.mem_of_getElem? he
    rcases List.mem_cons.1 hm with rfl | hm
    · exact absurd hee.symm hq
    · exact List.mem_map.2 ⟨e, hm, hee⟩
  · have hin : q ∉ (comps [] K).map (·.1) := fun hin => by
      obtain ⟨e, he, hee⟩ := List.mem_map.1 hin
      have hm : e ∈ allE K := List.mem_cons_of_mem _ he
      obtain ⟨i, hi⟩ := List.getElem?_of_mem hm
      have hrow := all_row h.ok
      -- all ahead of i are ahead of q; i itself is not
      have hki : k = i := by
        have hlt : i < (allE K).length := (List.getElem?_eq_some_iff.1 hi).1
        have h1 : ∀ j, j < i → ∀ x, (allE K)[j]? = some x → cmpL x.1 q = -1 := fun j hj x hx => by
          have := List.pairwise_iff_getElem.1 hrow j i (by omega) hlt hj
          rw [(List.getElem?_eq_some_iff.1 hx).2, (List.getElem?_eq_some_iff.1 hi).2, hee] at this
          exact this
        have h2 : ¬ cmpL e.1 q = -1 := by rw [hee, (cmpL_eq _ _).2 rfl]; omega
        have hsp : allE K = (allE K).take i ++ e :: (allE K).drop (i + 1) := by
          conv => lhs; rw [← List.take_append_drop i (allE K)]
          rw [List.drop_eq_getElem_cons hlt, (List.getElem?_eq_some_iff.1 hi).2]
        show ((allE K).takeWhile fun x => decide (cmpL x.1 q = -1)).length = i
        rw [hsp, List.takeWhile_append_of_pos (fun a ha => by
          obtain ⟨j, hj⟩ := List.getElem?_of_mem ha
          rw [List.getElem?_take] at hj
          split at hj
          · rename_i hlt'
            exact decide_eq_true (h1 j hlt' a hj)
          · cases hj)]
        rw [List.takeWhile_cons, if_neg (by simpa using h2)]
        simp
        omega
      exact hno e (by rw [hki]; exact hi) hee
    have hc := ins_comps o K q h.ok hq hup hla hin
    show ([], rootOwn) :: comps [] (insF o K q) = _
    rw [hc, hsplit.1, hsplit.2]
    have := insS_skip (A := [([], rootOwn)]) (L := comps [] K) (e := (q, o)) (by intro a ha; simp at ha; subst ha; exact hroot)
    rw [List.singleton_append, List.singleton_append] at this
    rw [← this]
    rfl

theorem deep_of {K : Fo} (b : List (List UInt8)) {m : Nat} (h : ∀ e ∈ comps b K, e.1.length ≤ m) (hb : b.length ≤ m) : deepF K ≤ m - b.length := by
  induction K generalizing b with
  | nil => simp [deepF]
  | cons o k r ik ir =>
    have h1 := h (b ++ [o.name], o) (by simp [comps])
    simp at h1
    have h2 := ik (b ++ [o.name]) (fun e he => h e (by simp [comps, he])) (by simp; omega)
    have h3 := ir b (fun e he => h e (by simp [comps, he])) hb
    simp only [deepF]
    simp at h2
    omega
theorem form_of {K : Fo} (b : List (List UInt8)) (pk : Int) (last : List UInt8) (hp : pk = 1) (hok : okF K) (hl : ∀ y ∈ tops K, cmpB last y = -1) (hname : ∀ e ∈ comps b K, nameB e.2.name = true) (hown : ∀ e ∈ comps b K, ownB e.2 = true)
    (hkind : ∀ c ∈ comps b K, ∀ d ∈ comps b K, d.1.dropLast = c.1 → c.2.kind = 1) : formF pk last K = true := by
  induction K generalizing b pk last with
  | nil => rfl
  | cons o k r ik ir =>
    obtain ⟨g1, g2, g3⟩ := hok
    have hin : ∀ e ∈ comps (b ++ [o.name]) k, e ∈ comps b (.cons o k r) := fun e he => by simp [comps, he]
    have hir : ∀ e ∈ comps b r, e ∈ comps b (.cons o k r) := fun e he => by simp [comps, he]
    have ho : (b ++ [o.name], o) ∈ comps b (.cons o k r) := by simp [comps]
    have h2 := ir b pk o.name hp g2 g3 (fun e he => hname e (hir e he)) (fun e he => hown e (hir e he)) (fun c hc d hd => hkind c (hir c hc) d (hir d hd))
    have h1 : formF o.kind [] k = true := by
      by_cases hk : k = .nil
      · subst hk; rfl
      · have hok1 : o.kind = 1 := by
          match k, hk with
          | .cons p a c, _ =>
            exact hkind _ ho (b ++ [o.name] ++ [p.name], p) (hin _ (by simp [comps])) (by simp)
        refine ik (b ++ [o.name]) o.kind [] hok1 g1 (fun y hy => ?_) (fun e he => hname e (hin e he)) (fun e he => hown e (hin e he)) (fun c hc d hd => hkind c (hin c hc) d (hin d hd))
        obtain ⟨p, hp'⟩ := top_in hy
        have hm : (b ++ [o.name] ++ [y], p) ∈ comps (b ++ [o.name]) k := by rw [comps_pre]; exact List.mem_map.2 ⟨_, hp', rfl⟩
        have hyy : nameB p.name = true := hname _ (hin _ hm)
        have hpn : p.name = y := by
          have : ∀ (K : Fo) (z : List UInt8) (p : Own), ([z], p) ∈ comps [] K → p.name = z := fun K => by
            induction K with
            | nil => intro z p h; simp [comps] at h
            | cons o' k' r' _ ir' =>
              intro z p h
              simp only [comps, List.nil_append, List.mem_cons, List.mem_append] at h
              rcases h with h | h | h
              · injection h with h1 h2
                injection h1 with h1 _
                rw [h2, h1]
              · rw [comps_pre] at h
                obtain ⟨e', he', h⟩ := List.mem_map.1 h
                injection h with h _
                obtain ⟨n, q, e1, _⟩ := comps_top he'
                rw [e1] at h
                simp at h
              · exact ir' z p h
          exact this k y p hp'
        rw [hpn] at hyy
        exact cmpB_nil (name_ne hyy)
    simp only [formF, Bool.and_eq_true, decide_eq_true_eq]
    exact ⟨⟨⟨⟨⟨hown _ ho, hname _ ho⟩, hp⟩, hl _ (by simp [tops])⟩, h1⟩, h2⟩
/-- A made tree may be. -/
theorem Good.may {K : Fo} (h : Good K) (hs : sizeF K ≤ 63) : mayOf rootOwn K = 0 := by
  have hd : deepF K ≤ 6 := by have := deep_of [] h.deep (Nat.zero_le _); simpa using this
  have hnm : ∀ e ∈ comps [] K, nameB e.2.name = true := fun e he => h.name e he _ (List.mem_of_getLast? (h.last e he))
  have hf : formF 1 [] K = true := by
    refine form_of [] 1 [] rfl h.ok (fun y hy => ?_) hnm h.own (fun c hc d hd hcd => ?_)
    · obtain ⟨p, hp⟩ := top_in hy
      exact cmpB_nil (name_ne (h.name _ hp y (by simp)))
    · rcases h.up d hd with h1 | ⟨v, hv, h2, h3⟩
      · obtain ⟨n, q, e1, _⟩ := comps_top hc
        rw [hcd, e1] at h1
        cases h1
      · -- two entries of one row of names are one
        have heq : v = c := by
          have hrow := comps_row h.ok
          obtain ⟨i, hi⟩ := List.getElem?_of_mem hv
          obtain ⟨j, hj⟩ := List.getElem?_of_mem hc
          have li := (List.getElem?_eq_some_iff.1 hi).1
          have lj := (List.getElem?_eq_some_iff.1 hj).1
          have hvc : v.1 = c.1 := h2.trans hcd
          rcases Nat.lt_trichotomy i j with hlt | rfl | hgt
          · have := List.pairwise_iff_getElem.1 hrow i j li lj hlt
            rw [(List.getElem?_eq_some_iff.1 hi).2, (List.getElem?_eq_some_iff.1 hj).2, hvc, (cmpL_eq _ _).2 rfl] at this
            omega
          · rw [hi] at hj; exact Option.some.inj hj
          · have := List.pairwise_iff_getElem.1 hrow j i lj li hgt
            rw [(List.getElem?_eq_some_iff.1 hi).2, (List.getElem?_eq_some_iff.1 hj).2, hvc, (cmpL_eq _ _).2 rfl] at this
            omega
        rw [← heq]; exact h3
  unfold mayOf
  rw [if_pos ⟨rfl, rfl, root_own, hf⟩, if_neg (by omega)]
end Go.Proofs.Ytanofmejokgijaa
