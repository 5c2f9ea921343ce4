/-
  tree.through over a forest that lies in memory and stays: an invariant over the forests that it is still within.
-/
import Derived.Test.YtanofmejokgijaaThr
import Derived.Test.YtanofmejokgijaaTreR
namespace Go.Proofs.Ytanofmejokgijaa
open Go.RowKit
set_option linter.unusedVariables false

/-- A list that it is within, and the forest that lies there. -/
structure FrOn (w : World) (ok : Nat → Prop) (p : Fr × Fo) : Prop where
  len : p.1.n = lenF p.2
  cap : p.1.n ≤ p.1.c
  kids : KidsOn w ok p.1.A 0 p.2
theorem FrOn.turn {w w' : World} {ok S : Nat → Prop} {p : Fr × Fo} (h : FrOn w ok p) (ht : Turns S w w') (hk : ∀ k, ok k → ¬ S k) : FrOn w' ok p := ⟨h.len, h.cap, h.kids.turn ht hk⟩
theorem FrOn.node {w : World} {ok : Nat → Prop} {p : Fr × Fo} (h : FrOn w ok p) {ad : Addr} (hA : p.1.A = some ad) (hn : 0 < p.1.n) : ∃ o k r hg, p.2 = .cons o k r ∧ RecAt w ok (some ad) 0 (nodeCells o hg) ∧ NodeOn w ok o k hg ∧ FrOn w ok (p.1.tl 12, r) := by
  obtain ⟨f, K⟩ := p
  have h1 := h.len
  have h2 := h.cap
  cases K with
  | nil => simp only [lenF] at h1; simp only at hn; omega
  | cons o k r =>
    obtain ⟨⟨hg, hr, hno⟩, hrest⟩ := h.kids.cons
    simp only at hA h1 h2 hr
    simp only [lenF] at h1
    rw [hA] at hr
    refine ⟨o, k, r, hg, rfl, hr, hno, ?_, ?_, ?_⟩
    · simp only [Fr.tl]; omega
    · simp only [Fr.tl]; omega
    · exact (RowOn.tail (c := f.c) hrest.row (by omega)).kids
def sumF : List (Fr × Fo) → Nat
  | [] => 0
  | p :: l => sizeF p.2 + sumF l
theorem sumF_app (l r : List (Fr × Fo)) : sumF (l ++ r) = sumF l + sumF r := by
  induction l with
  | nil => simp [sumF]
  | cons p l ih => simp [sumF, ih]; omega
theorem map_concat {α β : Type} {f : α → β} {l : List α} {fs : List β} {x : β} (h : fs ++ [x] = l.map f) : ∃ l' p, l = l' ++ [p] ∧ fs = l'.map f ∧ x = f p := by
  rcases List.eq_nil_or_concat l with rfl | ⟨l', p, rfl⟩
  · simp at h
  · rw [List.concat_eq_append, List.map_append, List.map_singleton] at h
    have := List.append_inj' h rfl
    exact ⟨l', p, by rw [List.concat_eq_append], this.1, by simpa using this.2⟩

theorem thrR_any (q : FuncId) (cap : Array Value) (hq : ∀ (x y : Value) (w : World), (callFunc q (#[x, y] ++ cap)).run Try.prog w = .ok (.enter q (#[x, y] ++ cap)) w)
    (R : List Fo → Option Nat → World → Prop) (ok S : Nat → Prop) (base : Nat) (hok : ∀ k, ok k → k < base) (hS : ∀ k, ok k → ¬ S k)
    (hR : ∀ Ks G G' w w', base ≤ w.heap.size → R Ks G w → (∀ g, G = some g → base ≤ g ∧ g < w.heap.size) → w.grownBy w' G → (G' = G ∨ G' = some w.heap.size) → R Ks G' w')
    (hpop : ∀ Ks G w, R (Ks ++ [.nil]) G w → R Ks G w)
    (hsee : ∀ Ks o k r h ad G w, base ≤ w.heap.size → (∀ g, G = some g → base ≤ g ∧ g < w.heap.size) → R (Ks ++ [.cons o k r]) G w → RecAt w ok (some ad) 0 (nodeCells o h) → NodeOn w ok o k h → Ks.length ≤ 1000000 →
      Calls Try.prog q (#[.pointer (some ad), .int .i64 Ks.length] ++ cap) w fun e w' => ∃ k', (k' = k ∧ e = .returned (.slice h.ak h.nk h.ck) ∨ k' = .nil ∧ e = .returned (.slice none 0 0)) ∧ R (Ks ++ [r, k']) G w' ∧ Turns S w w' ∧ ∀ g, G = some g → w'.heap[g]? = w.heap[g]?)
    (f : Fr) (K : Fo) (w : World) (hb : base ≤ w.heap.size) (hf : FrOn w ok (f, K)) (h0 : R [K] none w) (hK : sizeF K ≤ 999998) :
    Calls Try.prog 35 #[f.v, .func (.func q) #[] cap] w fun e w' => e = .returned (.tuple #[]) ∧ ∃ G, R [] G w' ∧ w.heap.size ≤ w'.heap.size := by
  refine (thrN_any q cap hq (fun m fs G w => ∃ l : List (Fr × Fo), fs = l.map (·.1) ∧ (∀ p ∈ l, FrOn w ok p) ∧ R (l.map (·.2)) G w ∧ m = 2 * sumF l + l.length ∧ l.length + sumF l ≤ 1000000) base ?_ ?_ ?_ ?_ (2 * sizeF K + 1) f w hb ⟨[(f, K)], rfl, ?_, h0, ?_, ?_⟩).mono ?_
  · rintro m fs G G' w w' hbw ⟨l, e1, h1, h2, h3, h4⟩ hG hg hat
    refine ⟨l, e1, fun p hp => (h1 p hp).turn (S := fun k => base ≤ k) (Turns.of_by hg fun g e _ => (hG g e).1) (fun k hk => by have := hok k hk; omega), hR _ _ _ _ _ hbw h2 hG hg hat, h3, h4⟩
  · rintro m fs G w ⟨l, rfl, h1, h2, h3, h4⟩
    refine ⟨by rw [List.length_map]; omega, fun f hf => ?_⟩
    obtain ⟨p, hp, rfl⟩ := List.mem_map.1 hf
    have hp1 := h1 p hp
    refine ⟨hp1.cap, fun hn => ?_⟩
    have hl := hp1.len
    have hk := hp1.kids
    cases hpk : p.2 with
    | nil => rw [hpk] at hl; simp only [lenF] at hl; omega
    | cons o k r =>
      rw [hpk] at hk
      obtain ⟨⟨_, ⟨ad, e, _⟩, _⟩, _⟩ := hk.cons
      exact ⟨ad, e⟩
  · rintro m fs f G w ⟨l, e1, h1, h2, h3, h4⟩ hn
    obtain ⟨l', p, rfl, rfl, rfl⟩ := map_concat e1
    have hp := h1 p (by simp)
    have hl := hp.len
    have hnil : p.2 = .nil := by
      cases hpk : p.2 with
      | nil => rfl
      | cons o k r => rw [hpk] at hl; simp only [lenF] at hl; omega
    rw [List.map_append, List.map_singleton, hnil] at h2
    have hs : sumF (l' ++ [p]) = sumF l' := by rw [sumF_app]; simp [sumF, hnil, sizeF]
    rw [hs, List.length_append, List.length_singleton] at h3 h4
    exact ⟨2 * sumF l' + l'.length, by omega, l', rfl, fun p hp => h1 p (by simp [hp]), hpop _ _ _ h2, rfl, by omega⟩
  · rintro m fs f ad G w hbw hG ⟨l, e1, h1, h2, h3, h4⟩ hA hn
    obtain ⟨l', p, rfl, rfl, rfl⟩ := map_concat e1
    have hp := h1 p (by simp)
    obtain ⟨o, k, r, hg, hpk, hrec, hno, htl⟩ := hp.node hA hn
    rw [List.map_append, List.map_singleton, hpk] at h2
    have hs : sumF (l' ++ [p]) = sumF l' + 1 + sizeF k + sizeF r := by rw [sumF_app]; simp [sumF, hpk, sizeF]; omega
    rw [hs, List.length_append, List.length_singleton] at h3 h4
    have C := hsee (l'.map (·.2)) o k r hg ad G w hbw hG h2 hrec hno (by rw [List.length_map]; omega)
    rw [List.length_map] at C
    rw [List.length_map]
    refine C.mono ?_
    rintro e w' ⟨k', hk', hR', hT, hG'⟩
    have hsz : ∀ (b : Fr) (k' : Fo), sumF (l' ++ [(p.1.tl 12, r), (b, k')]) = sumF l' + sizeF r + sizeF k' := fun b k' => by rw [sumF_app]; simp [sumF]; omega
    rcases hk' with ⟨rfl, rfl⟩ | ⟨rfl, rfl⟩
    · refine ⟨⟨hg.ak, hg.nk, hg.ck⟩, 2 * (sumF l' + sizeF r + sizeF k') + (l'.length + 2), rfl, by omega, ⟨l' ++ [(p.1.tl 12, r), (⟨hg.ak, hg.nk, hg.ck⟩, k')], by simp, fun x hx => ?_, by simpa using hR', by rw [hsz]; simp, by rw [hsz]; simp; omega⟩, hT.size, hG'⟩
      rcases List.mem_append.1 hx with hx | hx
      · exact (h1 x (by simp [hx])).turn hT hS
      · simp at hx
        rcases hx with rfl | rfl
        · exact htl.turn hT hS
        · exact ⟨hno.klen.symm, hno.kcap.1, hno.kids.turn hT hS⟩
    · refine ⟨⟨none, 0, 0⟩, 2 * (sumF l' + sizeF r) + (l'.length + 2), rfl, by omega, ⟨l' ++ [(p.1.tl 12, r), (⟨none, 0, 0⟩, .nil)], by simp, fun x hx => ?_, by simpa using hR', by rw [hsz]; simp [sizeF], by rw [hsz]; simp [sizeF]; omega⟩, hT.size, hG'⟩
      rcases List.mem_append.1 hx with hx | hx
      · exact (h1 x (by simp [hx])).turn hT hS
      · simp at hx
        rcases hx with rfl | rfl
        · exact htl.turn hT hS
        · exact ⟨rfl, Nat.le_refl _, trivial⟩
  · intro p hp
    simp at hp
    subst hp
    exact hf
  · simp [sumF]
  · simp [sumF]; omega
  · rintro e w' ⟨rfl, m, G, ⟨l, e1, _, h2, _⟩, hsz⟩
    have : l = [] := by simpa using e1.symm
    subst this
    exact ⟨rfl, G, h2, hsz⟩

/-- A function that is no other's place: its call is entered. -/
theorem enter_plain {P : Program} {q : FuncId} {fn : Func} (hf : P.funcs[q]? = some fn) (hn : (fn.name == "runtime.NumGoroutine") = false) (hb : fn.body.isNone = false) (args : Array Value) (w : World) : (callFunc q args).run P w = .ok (.enter q args) w := by
  have hn' : ¬ fn.name = "runtime.NumGoroutine" := by simpa using hn
  have hb' : ¬ fn.body = none := fun h => by rw [h] at hb; cases hb
  simp [callFunc, hf, hn', hb']
theorem count_enters (args : Array Value) (w : World) : (callFunc 36 args).run Try.prog w = .ok (.enter 36 args) w := enter_plain Try.func36 (by kernel_rfl) (by kernel_rfl) args w
end Go.Proofs.Ytanofmejokgijaa
