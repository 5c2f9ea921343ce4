/-
  tree.Walk: the entries, each ahead of its kids.
-/
import Derived.Test.YtanofmejokgijaaTrL
namespace Go.Proofs.Ytanofmejokgijaa
open Go.RowKit
set_option linter.unusedVariables false

abbrev EntL := List (List (List UInt8) × Own)
def rootE : Fo → EntL
  | .nil => []
  | .cons o k r => ([], o) :: (comps [] k ++ rootE r)
def lev (ns : List (List UInt8)) (i : Nat) (K : Fo) : EntL := if i = 0 then rootE K else comps ((ns.take i).drop 1) K
def restE (ns : List (List UInt8)) (i : Nat) : List Fo → EntL
  | [] => []
  | K :: l => restE ns (i + 1) l ++ lev ns i K
theorem restE_app (ns : List (List UInt8)) (l r : List Fo) (i : Nat) : restE ns i (l ++ r) = restE ns (i + l.length) r ++ restE ns i l := by
  induction l generalizing i with
  | nil => simp [restE]
  | cons K l ih => simp only [List.cons_append, restE, ih, List.length_cons, show i + 1 + l.length = i + (l.length + 1) by omega, List.append_assoc]
theorem restE_same (ns ns' : List (List UInt8)) (l : List Fo) (i : Nat) (h : ∀ t, t < i + l.length → ns'.take t = ns.take t) : restE ns' i l = restE ns i l := by
  induction l generalizing i with
  | nil => rfl
  | cons K l ih =>
    simp only [restE]
    rw [ih (i + 1) (fun t ht => h t (by simp only [List.length_cons]; omega))]
    have := h i (by simp only [List.length_cons]; omega)
    unfold lev
    rw [this]
theorem rest_visit (ns : List (List UInt8)) (Ks : List Fo) (o : Own) (k r : Fo) (hd : Ks.length ≤ ns.length) :
    restE ns 0 (Ks ++ [.cons o k r]) = ((ns.take Ks.length ++ [o.name]).drop 1, o) :: restE (ns.take Ks.length ++ [o.name]) 0 (Ks ++ [r, k]) := by
  have hl : (ns.take Ks.length).length = Ks.length := by rw [List.length_take]; omega
  have hs := restE_same ns (ns.take Ks.length ++ [o.name]) Ks 0 (fun t ht => by
    rw [List.take_append_of_le_length (by rw [hl]; omega), List.take_take, Nat.min_eq_left (by omega)])
  rw [restE_app, restE_app, hs, Nat.zero_add]
  simp only [restE, List.nil_append, List.append_nil]
  generalize hd' : Ks.length = d at *
  unfold lev
  cases d with
  | zero => simp [rootE]
  | succ d =>
    have hne : ns.take (d + 1) ≠ [] := by intro e; rw [e] at hl; simp at hl
    rw [if_neg (by omega), if_neg (by omega), if_neg (by omega)]
    have e1 : (ns.take (d + 1) ++ [o.name]).drop 1 = (ns.take (d + 1)).drop 1 ++ [o.name] := by rw [List.drop_append_of_le_length (by omega)]
    have e2 : ((ns.take (d + 1) ++ [o.name]).take (d + 1 + 1)).drop 1 = (ns.take (d + 1)).drop 1 ++ [o.name] := by rw [List.take_of_length_le (by simp; omega), e1]
    have e3 : (ns.take (d + 1) ++ [o.name]).take (d + 1) = ns.take (d + 1) := by rw [List.take_append_of_le_length (by omega), List.take_take, Nat.min_self]
    rw [e1, e2, e3]
    simp [comps]
theorem joinw_len (l : List (List UInt8)) (h : ∀ x ∈ l, x.length ≤ 1000) : (joinOf l).length ≤ l.length * 1001 := by
  induction l with
  | nil => simp [joinOf]
  | cons x r ih =>
    have h1 := h x (by simp)
    have h2 := ih fun y hy => h y (by simp [hy])
    cases r with
    | nil => simp [joinOf]; omega
    | cons y r => simp [joinOf] at h2 ⊢; omega
/-- An entry's cells. -/
def ec (e : List (List UInt8) × Own × Hang) : List Value := tv (joinOf e.1) :: nodeCells e.2.1 e.2.2
theorem ec_len (e : List (List UInt8) × Own × Hang) : (ec e).length = 13 := rfl
def smallKs : List Fo → Prop
  | [] => True
  | K :: l => smallF K ∧ smallKs l
theorem smallKs_app (l r : List Fo) : smallKs (l ++ r) ↔ smallKs l ∧ smallKs r := by
  induction l with
  | nil => simp [smallKs]
  | cons K l ih => simp only [List.cons_append, smallKs, ih, and_assoc]
/-- What Walk keeps on its way. -/
structure WalkI (bn bl base : Nat) (total : EntL) (w0 : World) (Ks : List Fo) (G : Option Nat) (u : World) : Prop where
  it : ∃ (nn lv : Value) (ns : List (List UInt8)) (es : List (List (List UInt8) × Own × Hang)) (okE : Nat → Prop),
    Has u bn [nn] ∧ Has u bl [lv] ∧ u.ownsRow base 9 1 nn ns.length (ns.map tv) ∧ u.ownsRow base 43 13 lv es.length (es.map ec).flatten ∧ Ks.length ≤ ns.length + 1 ∧ ns.length ≤ 10005 ∧ (∀ x ∈ ns, x.length ≤ 1000) ∧
    (es.map fun e => (e.1, e.2.1)) ++ restE ns 0 Ks = total ∧ (nn.ownBlock ≠ none → nn.ownBlock ≠ lv.ownBlock) ∧ (∀ g, G = some g → nn.ownBlock ≠ some g ∧ lv.ownBlock ≠ some g) ∧
    (∀ k, okE k → k < u.heap.size ∧ base ≤ k ∧ nn.ownBlock ≠ some k ∧ lv.ownBlock ≠ some k ∧ G ≠ some k) ∧ ∀ e ∈ es, OwnOn u okE e.2.1 e.2.2 ∧ (e.2.2.ak = none ∧ e.2.2.nk = 0 ∧ e.2.2.ck = 0)
  small : smallKs Ks
  many : Ks.length + sumK Ks ≤ 10002
  grown : Grows w0 u

theorem walkI_frame {bn bl base : Nat} {total : EntL} {w0 : World} {Ks : List Fo} {G G' : Option Nat} {u u' : World} (hbn : bn < base) (hbl : bl < base) (hw0 : w0.heap.size ≤ base) (hbu : base ≤ u.heap.size) (h : WalkI bn bl base total w0 Ks G u)
    (hG : ∀ g, G = some g → base ≤ g ∧ g < u.heap.size) (hby : u.grownBy u' G) (hat : G' = G ∨ G' = some u.heap.size) : WalkI bn bl base total w0 Ks G' u' := by
  obtain ⟨⟨nn, lv, ns, es, okE, h1, h2, h3, h4, h5, h6, h7, h8, h9, h10, h11, h12⟩, hs, hm, hg⟩ := h
  have hT : Turns (fun k => G = some k) u u' := Turns.of_by hby fun g e _ => e
  have nb : ∀ b, b < base → ¬ G = some b := fun b hb e => by have := (hG b e).1; omega
  have hnl : ∀ g, nn.ownBlock = some g → g < u.heap.size := fun g e => (h3.lt g e).2
  have hll : ∀ g, lv.ownBlock = some g → g < u.heap.size := fun g e => (h4.lt g e).2
  refine ⟨⟨nn, lv, ns, es, okE, h1.turned hT (nb _ hbn), h2.turned hT (nb _ hbl), own_turned h3 hT (fun g e e' => (h10 g e').1 e), own_turned h4 hT (fun g e e' => (h10 g e').2 e), h5, h6, h7, h8, h9, ?_, ?_, ?_⟩, hs, hm, ?_⟩
  · intro g e
    rcases hat with rfl | rfl
    · exact h10 g e
    · injection e with e
      subst e
      exact ⟨fun e => by have := hnl _ e; omega, fun e => by have := hll _ e; omega⟩
  · intro k hk
    obtain ⟨a1, a2, a3, a4, a5⟩ := h11 k hk
    refine ⟨Nat.lt_of_lt_of_le a1 hby.size, a2, a3, a4, ?_⟩
    rcases hat with rfl | rfl
    · exact a5
    · intro e; injection e with e; omega
  · intro e he
    exact ⟨(h12 e he).1.turn hT (fun k hk e => (h11 k hk).2.2.2.2 e), (h12 e he).2⟩
  · exact hg.grown hby hg.size (fun g e => by have := (hG g e).1; omega)

theorem walkI_see {bn bl base : Nat} {total : EntL} {w0 : World} (hbn : bn < base) (hbl : bl < base) (hne : bn ≠ bl) (hw0 : w0.heap.size ≤ bn) (hw1 : w0.heap.size ≤ bl) (htot : total.length ≤ 10002) (ok : Nat → Prop) (hok : ∀ k, ok k → k < base ∧ k ≠ bn ∧ k ≠ bl)
    (Ks : List Fo) (o : Own) (k r : Fo) (h : Hang) (ad : Addr) (G : Option Nat) (w : World) (hbw : base ≤ w.heap.size) (hG : ∀ g, G = some g → base ≤ g ∧ g < w.heap.size) (hI : WalkI bn bl base total w0 (Ks ++ [.cons o k r]) G w)
    (hr : RecAt w ok (some ad) 0 (nodeCells o h)) (hn : NodeOn w ok o k h) :
    Calls Try.prog 41 #[.pointer (some ad), .int .i64 Ks.length, .pointer (some ⟨bn, 0, none⟩), .pointer (some ⟨bl, 0, none⟩)] w fun e w' => ∃ k', (k' = k ∧ e = .returned (.slice h.ak h.nk h.ck) ∨ k' = .nil ∧ e = .returned (.slice none 0 0)) ∧ WalkI bn bl base total w0 (Ks ++ [r, k']) G w' ∧ Turns (fun k => k = bn ∨ k = bl ∨ base ≤ k) w w' ∧ ∀ g, G = some g → w'.heap[g]? = w.heap[g]? := by
  obtain ⟨⟨nn, lv, ns, es, okE, h1, h2, h3, h4, h5, h6, h7, h8, h9, h10, h11, h12⟩, hs, hm, hg⟩ := hI
  rw [List.length_append, List.length_singleton] at h5 hm
  rw [sumK_app] at hm
  simp only [sumK, sizeF] at hm
  have hd : Ks.length ≤ ns.length := by omega
  rw [smallKs_app] at hs
  simp only [smallKs, smallF, and_true] at hs
  obtain ⟨hsK, hso, hsk, hsr⟩ := hs
  rw [rest_visit ns Ks o k r hd] at h8
  have hel : es.length ≤ 10002 := by have := congrArg List.length h8; simp at this; omega
  have hns' : ∀ x ∈ ns.take Ks.length ++ [o.name], x.length ≤ 1000 := fun x hx => by
    rcases List.mem_append.1 hx with hx | hx
    · exact h7 x (List.mem_of_mem_take hx)
    · simp at hx; rw [hx]; exact hso.2.2
  have hlen' : (ns.take Ks.length ++ [o.name]).length = Ks.length + 1 := by simp; omega
  have hjl : (joinOf ((ns.take Ks.length ++ [o.name]).drop 1)).length ≤ 100000000 := by
    have := joinw_len ((ns.take Ks.length ++ [o.name]).drop 1) (fun x hx => hns' x (List.mem_of_mem_drop hx))
    rw [List.length_drop, hlen'] at this
    omega
  have hnot : ∀ k, ok k → ¬ WalkS bn bl nn lv k := fun k hk hw => by
    obtain ⟨a1, a2, a3⟩ := hok k hk
    rcases hw with e | e | e | e
    · exact a2 e
    · exact a3 e
    · have := own_ge h3 _ e; omega
    · have := own_ge h4 _ e; omega
  refine (walk1_any ad Ks.length bn bl base nn lv ns es.length (es.map ec).flatten ok o h w hr hn.own hso h1 h2 h3 h4 hd (by omega) (by omega) hbn hbl hne h9 hbw hnot hjl).mono ?_
  rintro e w' ⟨rfl, nn', lv', h', x, y, g1, g2, g3, g4, g5, g6, g7, g8, g9, g10, g11, g12, g13⟩
  have hll : ∀ g, lv.ownBlock = some g → g < w.heap.size := fun g e => (h4.lt g e).2
  have hnl : ∀ g, nn.ownBlock = some g → g < w.heap.size := fun g e => (h3.lt g e).2
  have hWS : ∀ k, k < w.heap.size → WalkS bn bl nn lv k → (k = bn ∨ k = bl ∨ base ≤ k) := fun k _ hw => by
    rcases hw with e | e | e | e
    · exact .inl e
    · exact .inr (.inl e)
    · exact .inr (.inr (own_ge h3 _ e))
    · exact .inr (.inr (own_ge h4 _ e))
  have hokE : ∀ k, okE k → ¬ WalkS bn bl nn lv k := fun k hk hw => by
    obtain ⟨a1, a2, a3, a4, a5⟩ := h11 k hk
    rcases hw with e | e | e | e
    · omega
    · omega
    · exact a3 e
    · exact a4 e
  have hnlv : nn'.ownBlock ≠ none → nn'.ownBlock ≠ lv'.ownBlock := fun hne' e => by
    obtain ⟨g, hgg⟩ := Option.ne_none_iff_exists'.1 hne'
    have b1 := g10 g hgg
    rcases g12 with e2 | ⟨g', e2, hg'⟩
    · rcases g11 with e3 | ⟨g'', e3, hg''⟩
      · exact h9 (by rw [← e3]; exact hne') (by rw [← e3, ← e2]; exact e)
      · rw [hgg] at e3; injection e3 with e3; subst e3
        rw [hgg, e2] at e
        have := hll _ e.symm
        omega
    · rw [hgg, e2] at e; injection e with e; omega
  refine ⟨k, .inl ⟨rfl, rfl⟩, ⟨⟨nn', lv', ns.take Ks.length ++ [o.name], es ++ [((ns.take Ks.length ++ [o.name]).drop 1, o, h')], fun j => okE j ∨ (x ≤ j ∧ j < y), g1, g2, by rw [hlen']; exact g3, ?_, ?_, ?_, hns', ?_, hnlv, ?_, ?_, ?_⟩, ?_, ?_, ?_⟩, g13.mono hWS, ?_⟩
  · rw [List.length_append, List.map_append, List.flatten_append]
    simpa [ec] using g4
  · rw [hlen', List.length_append]; simp
  · rw [hlen']; omega
  · rw [List.map_append, List.append_assoc]; exact h8
  · intro g e
    have hgs := (hG g e).2
    obtain ⟨b1, b2⟩ := h10 g e
    constructor
    · intro e'
      rcases g11 with e3 | ⟨g'', e3, hg''⟩
      · exact b1 (e3 ▸ e')
      · rw [e'] at e3; injection e3 with e3; omega
    · intro e'
      rcases g12 with e3 | ⟨g'', e3, hg''⟩
      · exact b2 (e3 ▸ e')
      · rw [e'] at e3; injection e3 with e3; omega
  · intro j hj
    rcases hj with hj | ⟨hj1, hj2⟩
    · obtain ⟨a1, a2, a3, a4, a5⟩ := h11 j hj
      refine ⟨Nat.lt_of_lt_of_le a1 g13.size, a2, ?_, ?_, a5⟩
      · intro e'
        rcases g11 with e3 | ⟨g'', e3, hg''⟩
        · exact a3 (e3 ▸ e')
        · rw [e'] at e3; injection e3 with e3; omega
      · intro e'
        rcases g12 with e3 | ⟨g'', e3, hg''⟩
        · exact a4 (e3 ▸ e')
        · rw [e'] at e3; injection e3 with e3; omega
    · refine ⟨by omega, by omega, fun e' => by have := g10 _ e'; omega, fun e' => ?_, fun e' => by have := (hG _ e').2; omega⟩
      rcases g12 with e3 | ⟨g'', e3, hg''⟩
      · rw [e'] at e3; have := hll _ e3.symm; omega
      · rw [e'] at e3; injection e3 with e3; omega
  · intro e he
    rcases List.mem_append.1 he with he | he
    · exact ⟨((h12 e he).1.turn g13 hokE).mono (fun k hk => .inl hk), (h12 e he).2⟩
    · simp at he
      subst he
      exact ⟨g5.mono (fun k hk => .inr hk), g6⟩
  · rw [smallKs_app]; exact ⟨hsK, hsr, hsk, trivial⟩
  · rw [sumK_app, List.length_append]; simp only [sumK, List.length_cons, List.length_nil]; omega
  · exact ⟨g13.os.trans hg.os, g13.tape.trans hg.tape, g13.output.trans hg.output, Nat.le_trans hg.size g13.size, fun j hj => (g13.block j (Nat.lt_of_lt_of_le hj hg.size) (fun hw => by
      rcases hWS j (Nat.lt_of_lt_of_le hj hg.size) hw with e | e | e <;> omega)).trans (hg.block j hj)⟩
  · intro g e
    have hgs := hG g e
    exact g13.block g hgs.2 (fun hw => by
      obtain ⟨b1, b2⟩ := h10 g e
      rcases hw with e' | e' | e' | e'
      · omega
      · omega
      · exact b1 e'
      · exact b2 e')
end Go.Proofs.Ytanofmejokgijaa
