/-
  tree.rise, attrsMay, kidsRise, kindMay, fieldsMay: they answer riseB, attrsM, riseB, kindB, fieldsB.
-/
import Derived.Test.YtanofmejokgijaaTrE
namespace Go.Proofs.Ytanofmejokgijaa
open Go.RowKit
set_option linter.unusedVariables false

theorem tops_kids (K : Fo) : tops K = (kidsL K).map (·.1.name) := by
  induction K with
  | nil => rfl
  | cons o k r _ ir => simp [tops, kidsL, ir]
theorem tops_len (K : Fo) : (tops K).length = lenF K := by rw [tops_kids, List.length_map, kidsL_len]
/-- A kid's record, by its number. -/
theorem kid_rec {w : World} {ok : Nat → Prop} {A : Option Addr} {K : Fo} (h : KidsOn w ok A 0 K) {j : Nat} {x : List UInt8} (hx : (tops K)[j]? = some x) : ∃ (ad : Addr) (o : Own) (k : Fo) (hg : Hang), A = some ad ∧ o.name = x ∧ RecAt w ok (some (ad.add (j * 12))) 0 (nodeCells o hg) ∧ NodeOn w ok o k hg := by
  rw [tops_kids, List.getElem?_map] at hx
  obtain ⟨y, hy, rfl⟩ := Option.map_eq_some_iff.1 hx
  obtain ⟨hg, hr, hn⟩ := h.at_ hy
  rw [Nat.zero_add] at hr
  have hr' := hr
  obtain ⟨ad, rfl, _⟩ := hr'
  exact ⟨ad, y.1, y.2, hg, rfl, rfl, rec_in hr, hn⟩
/-- An attribute's cells, by its number. -/
theorem attr_rec {w : World} {ok : Nat → Prop} {A : Option Addr} {l : List (List UInt8 × List UInt8)} (h : LiesOn w ok A (l.map attrCells).flatten) {j : Nat} {a : List UInt8 × List UInt8} (ha : l[j]? = some a) : ∃ ad, A = some ad ∧ w.cell? (ad.add (j * 2)) = some (tv a.1) ∧ w.cell? ⟨(ad.add (j * 2)).block, (ad.add (j * 2)).off + 1, none⟩ = some (tv a.2) := by
  have hl : ∀ r ∈ l.map attrCells, r.length = 2 := fun r hr => by obtain ⟨b, _, rfl⟩ := List.mem_map.1 hr; rfl
  have hj : (l.map attrCells)[j]? = some (attrCells a) := by rw [List.getElem?_map, ha]; rfl
  obtain ⟨ad, rfl, _, h0⟩ := h _ _ (flat_at hl hj (j := 0) (u := tv a.1) rfl)
  obtain ⟨ad', e, _, h1⟩ := h _ _ (flat_at hl hj (j := 1) (u := tv a.2) rfl)
  injection e with e
  subst e
  refine ⟨ad, rfl, by rwa [Nat.add_zero] at h0, ?_⟩
  rw [← add_add_addr] at h1
  simpa [Addr.add] using h1

set_option maxRecDepth 20000 in
set_option maxHeartbeats 1000000 in
theorem riseN_any (A : Option Addr) (n c : Nat) (K : Fo) (ok : Nat → Prop) (w : World) (hn : lenF K = n) (hc : n ≤ 1000000) (hK : KidsOn w ok A 0 K) :
    Calls Try.prog 82 #[.slice A n c, .func (.func 83) #[] #[]] w fun e w' => e = .returned (.bool (riseB (tops K))) ∧ Grows w w' := by
  have hA : 0 < n → ∃ ad, A = some ad := fun h0 => by
    cases K with
    | nil => simp [lenF] at hn; omega
    | cons o k r => obtain ⟨⟨_, ⟨ad, e, _⟩, _⟩, _⟩ := hK.cons; exact ⟨ad, e⟩
  have hl := tops_len K
  go_enter Try.func82, Try.ntmps82
  go_wp2_with fail
  obtain ⟨W, hW⟩ : ∃ W, W = ((w.alloc (.cells #[.slice A n c] 26)).alloc (.cells #[.func (.func 83) #[] #[]] 110)) := ⟨_, rfl⟩
  have hl1 : W.cell? ⟨w.heap.size, 0, none⟩ = some (.slice A n c) := by rw [hW]; exact hcell_later ((Has.new w 26 [.slice A n c]).cell (k := 0) rfl) (grows_alloc _ _)
  have hf1 : W.cell? ⟨w.heap.size + 1, 0, none⟩ = some (.func (.func 83) #[] #[]) := by
    have := (Has.new (w.alloc (.cells #[.slice A n c] 26)) 110 [.func (.func 83) #[] #[]]).cell (k := 0) rfl
    rw [World.size_alloc] at this
    rw [hW]; exact this
  have hg : Grows w W := by rw [hW]; exact Grows.trans (grows_alloc _ _) (grows_alloc _ _)
  rw [← hW]
  clear hW
  have hKW := hK.later hg
  have htl := tops_len K
  refine (allN_any 102 #[.pointer (some ⟨w.heap.size + 1, 0, none⟩), .pointer (some ⟨w.heap.size, 0, none⟩)] (fun x y u => enter_plain Try.func102 (by kernel_rfl) (by kernel_rfl) _ u)
    (fun i u => Grows W u ∧ ∀ j a b, j + 1 < i → (tops K)[j]? = some a → (tops K)[j + 1]? = some b → cmpB a b = -1) (fun i u => Grows W u ∧ riseB (tops K) = false) A n c W (by omega) hA ?_ ⟨Grows.refl W, fun j a b h => by omega⟩).mono ?_
  · rintro i ad u hi rfl ⟨hgu, hall⟩
    have hKu := hKW.later hgu
    cases i with
    | zero =>
      refine (riseN0_any (.int .i64 0) _ _ _ u).mono ?_
      rintro e u' ⟨rfl, hg'⟩
      exact .inl ⟨rfl, Grows.trans hgu hg', fun j a b h => by omega⟩
    | succ j =>
      obtain ⟨x, hx⟩ : ∃ x, (tops K)[j]? = some x := ⟨_, List.getElem?_eq_getElem (by omega)⟩
      obtain ⟨y, hy⟩ : ∃ y, (tops K)[j + 1]? = some y := ⟨_, List.getElem?_eq_getElem (by omega)⟩
      obtain ⟨ad1, o1, _, g1, e1, rfl, r1, _⟩ := kid_rec hKu hx
      obtain ⟨ad2, o2, _, g2, e2, rfl, r2, _⟩ := kid_rec hKu hy
      injection e1 with e1
      injection e2 with e2
      subst e1 e2
      refine (riseN1_any j none ad (ad.add ((j + 1) * 12)) (w.heap.size + 1) w.heap.size n c o1.name o2.name u (by omega) (by omega) (hcell_later hf1 hgu) (hcell_later hl1 hgu) (rec_cell r1 (j := 0) rfl) (rec_cell r2 (j := 0) rfl)).mono ?_
      rintro e u' ⟨rfl, hg'⟩
      by_cases hc : cmpB o1.name o2.name = -1
      · left
        rw [decide_eq_true hc]
        refine ⟨rfl, Grows.trans hgu hg', fun j' a b h ha hb => ?_⟩
        by_cases hj : j' = j
        · subst hj
          rw [hx] at ha; rw [hy] at hb
          injection ha with ha; injection hb with hb
          rw [← ha, ← hb]; exact hc
        · exact hall j' a b (by omega) ha hb
      · right
        rw [decide_eq_false hc]
        exact ⟨rfl, Grows.trans hgu hg', rise_not hx hy hc⟩
  · have fin : ∀ (b : Bool) (u : World), riseB (tops K) = b → Grows W u → (Ending.returned (Value.bool b) = .returned (.bool (riseB (tops K))) ∧ Grows w u) := fun b u h1 h2 => ⟨by rw [h1], Grows.trans hg h2⟩
    rintro e u (⟨rfl, hgu, hall⟩ | ⟨rfl, i, hi, hgu, hf⟩)
    · have F := fin true u (rise_all.2 fun i a b ha hb => hall i a b (by have := (List.getElem?_eq_some_iff.1 hb).1; omega) ha hb) hgu
      go_wp2
      go_ret
      exact F
    · have F := fin false u hf hgu
      go_wp2
      go_ret
      exact F

set_option maxRecDepth 20000 in
set_option maxHeartbeats 1000000 in
theorem riseA_any (A : Option Addr) (n c : Nat) (l : List (List UInt8 × List UInt8)) (ok : Nat → Prop) (w : World) (hn : l.length = n) (hc : n ≤ 1000000) (hK : LiesOn w ok A (l.map attrCells).flatten) :
    Calls Try.prog 97 #[.slice A n c, .func (.func 98) #[] #[]] w fun e w' => e = .returned (.bool (riseB (l.map (·.1)))) ∧ Grows w w' := by
  have hA : 0 < n → ∃ ad, A = some ad := fun h0 => by
    obtain ⟨a, ha⟩ : ∃ a, l[0]? = some a := ⟨_, List.getElem?_eq_getElem (by omega)⟩
    obtain ⟨ad, e, _⟩ := attr_rec hK ha
    exact ⟨ad, e⟩
  go_enter Try.func97, Try.ntmps97
  go_wp2_with fail
  obtain ⟨W, hW⟩ : ∃ W, W = ((w.alloc (.cells #[.slice A n c] 24)).alloc (.cells #[.func (.func 98) #[] #[]] 128)) := ⟨_, rfl⟩
  have hl1 : W.cell? ⟨w.heap.size, 0, none⟩ = some (.slice A n c) := by rw [hW]; exact hcell_later ((Has.new w 24 [.slice A n c]).cell (k := 0) rfl) (grows_alloc _ _)
  have hf1 : W.cell? ⟨w.heap.size + 1, 0, none⟩ = some (.func (.func 98) #[] #[]) := by
    have := (Has.new (w.alloc (.cells #[.slice A n c] 24)) 128 [.func (.func 98) #[] #[]]).cell (k := 0) rfl
    rw [World.size_alloc] at this
    rw [hW]; exact this
  have hg : Grows w W := by rw [hW]; exact Grows.trans (grows_alloc _ _) (grows_alloc _ _)
  rw [← hW]
  clear hW
  have hKW := hK.turn (turns_grows hg) (fun _ _ h => h)
  refine (allA_any 107 #[.pointer (some ⟨w.heap.size + 1, 0, none⟩), .pointer (some ⟨w.heap.size, 0, none⟩)] (fun x y u => enter_plain Try.func107 (by kernel_rfl) (by kernel_rfl) _ u)
    (fun i u => Grows W u ∧ ∀ j a b, j + 1 < i → (l.map (·.1))[j]? = some a → (l.map (·.1))[j + 1]? = some b → cmpB a b = -1) (fun i u => Grows W u ∧ riseB (l.map (·.1)) = false) A n c W (by omega) hA ?_ ⟨Grows.refl W, fun j a b h => by omega⟩).mono ?_
  · rintro i ad u hi rfl ⟨hgu, hall⟩
    have hKu := hKW.turn (turns_grows hgu) (fun _ _ h => h)
    cases i with
    | zero =>
      refine (riseA0_any (.int .i64 0) _ _ _ u).mono ?_
      rintro e u' ⟨rfl, hg'⟩
      exact .inl ⟨rfl, Grows.trans hgu hg', fun j a b h => by omega⟩
    | succ j =>
      obtain ⟨x, hx⟩ : ∃ x, l[j]? = some x := ⟨_, List.getElem?_eq_getElem (by omega)⟩
      obtain ⟨y, hy⟩ : ∃ y, l[j + 1]? = some y := ⟨_, List.getElem?_eq_getElem (by omega)⟩
      obtain ⟨ad1, e1, r1, _⟩ := attr_rec hKu hx
      obtain ⟨ad2, e2, r2, _⟩ := attr_rec hKu hy
      injection e1 with e1
      injection e2 with e2
      subst e1 e2
      have hx' : (l.map (·.1))[j]? = some x.1 := by rw [List.getElem?_map, hx]; rfl
      have hy' : (l.map (·.1))[j + 1]? = some y.1 := by rw [List.getElem?_map, hy]; rfl
      refine (riseA1_any j none ad (ad.add ((j + 1) * 2)) (w.heap.size + 1) w.heap.size n c x.1 y.1 u (by omega) (by omega) (hcell_later hf1 hgu) (hcell_later hl1 hgu) r1 r2).mono ?_
      rintro e u' ⟨rfl, hg'⟩
      by_cases hc : cmpB x.1 y.1 = -1
      · left
        rw [decide_eq_true hc]
        refine ⟨rfl, Grows.trans hgu hg', fun j' a b h ha hb => ?_⟩
        by_cases hj : j' = j
        · subst hj
          rw [hx'] at ha; rw [hy'] at hb
          injection ha with ha; injection hb with hb
          rw [← ha, ← hb]; exact hc
        · exact hall j' a b (by omega) ha hb
      · right
        rw [decide_eq_false hc]
        exact ⟨rfl, Grows.trans hgu hg', rise_not hx' hy' hc⟩
  · have fin : ∀ (b : Bool) (u : World), riseB (l.map (·.1)) = b → Grows W u → (Ending.returned (Value.bool b) = .returned (.bool (riseB (l.map (·.1)))) ∧ Grows w u) := fun b u h1 h2 => ⟨by rw [h1], Grows.trans hg h2⟩
    rintro e u (⟨rfl, hgu, hall⟩ | ⟨rfl, i, hi, hgu, hf⟩)
    · have F := fin true u (rise_all.2 fun i a b ha hb => hall i a b (by have := (List.getElem?_eq_some_iff.1 hb).1; rw [List.length_map] at this; omega) ha hb) hgu
      go_wp2
      go_ret
      exact F
    · have F := fin false u hf hgu
      go_wp2
      go_ret
      exact F

theorem allattr_any (A : Option Addr) (n c : Nat) (l : List (List UInt8 × List UInt8)) (ok : Nat → Prop) (w : World) (hn : l.length = n) (hc : n ≤ 1000000) (hK : LiesOn w ok A (l.map attrCells).flatten) :
    Calls Try.prog 95 #[.slice A n c, .func (.func 96) #[] #[]] w fun e w' => e = .returned (.bool (l.all attrB)) ∧ Grows w w' := by
  have hA : 0 < n → ∃ ad, A = some ad := fun h0 => by
    obtain ⟨a, ha⟩ : ∃ a, l[0]? = some a := ⟨_, List.getElem?_eq_getElem (by omega)⟩
    obtain ⟨ad, e, _⟩ := attr_rec hK ha
    exact ⟨ad, e⟩
  refine (allA_any 96 #[] (fun x y u => enter_plain Try.func96 (by kernel_rfl) (by kernel_rfl) _ u)
    (fun i u => Grows w u ∧ (l.take i).all attrB = true) (fun i u => Grows w u ∧ l.all attrB = false) A n c w (by omega) hA ?_ ⟨Grows.refl w, rfl⟩).mono ?_
  · rintro i ad u hi rfl ⟨hgu, hall⟩
    have hKu := hK.turn (turns_grows hgu) (fun _ _ h => h)
    obtain ⟨x, hx⟩ : ∃ x, l[i]? = some x := ⟨_, List.getElem?_eq_getElem (by omega)⟩
    obtain ⟨ad1, e1, r1, r2⟩ := attr_rec hKu hx
    injection e1 with e1
    subst e1
    refine (attr1_any i (ad.add (i * 2)) x.1 x.2 u r1 r2).mono ?_
    rintro e u' ⟨rfl, hg'⟩
    cases hb : attrB (x.1, x.2)
    · right
      refine ⟨rfl, Grows.trans hgu hg', ?_⟩
      rw [List.all_eq_false]
      exact ⟨x, List.mem_of_getElem? hx, by rw [show x = (x.1, x.2) from rfl, hb]; simp⟩
    · left
      refine ⟨rfl, Grows.trans hgu hg', ?_⟩
      have hlt : i < l.length := by omega
      rw [List.take_succ_eq_append_getElem hlt, List.all_append, hall, (List.getElem?_eq_some_iff.1 hx).2, List.all_cons, show x = (x.1, x.2) from rfl, hb]
      rfl
  · rintro e u (⟨rfl, hgu, hall⟩ | ⟨rfl, i, hi, hgu, hf⟩)
    · rw [← hn, List.take_length] at hall
      exact ⟨by rw [hall], hgu⟩
    · exact ⟨by rw [hf], hgu⟩

set_option maxHeartbeats 1000000 in
theorem attrsmay_any (A : Option Addr) (n c : Nat) (l : List (List UInt8 × List UInt8)) (ok : Nat → Prop) (w : World) (hn : l.length = n) (hK : LiesOn w ok A (l.map attrCells).flatten) :
    Calls Try.prog 80 #[.slice A n c] w fun e w' => e = .returned (.bool (attrsM l)) ∧ Grows w w' := by
  unfold attrsM
  rw [hn]
  by_cases h4 : n ≤ 4
  · have d4 : decide ((n : Int) ≤ 4) = true := by simp; omega
    rw [decide_eq_true h4, Bool.true_and]
    have C1 := allattr_any A n c l ok w hn (by omega) hK
    have C2 := fun u (hu : Grows w u) => riseA_any A n c l ok u hn (by omega) (hK.turn (turns_grows hu) (fun _ _ h => h))
    generalize l.all attrB = b1 at *
    generalize riseB (l.map (·.1)) = b2 at *
    go_enter Try.func80, Try.ntmps80
    go_wp2_with fail
    refine C1.mono ?_
    rintro e w1 ⟨rfl, hg1⟩
    cases b1
    · go_wp2
      go_ret
      exact ⟨rfl, hg1⟩
    · go_wp2_with fail
      refine (C2 w1 hg1).mono ?_
      rintro e w2 ⟨rfl, hg2⟩
      go_wp2
      go_ret
      exact ⟨rfl, Grows.trans hg1 hg2⟩
  · have d4 : decide ((n : Int) ≤ 4) = false := by simp; omega
    rw [decide_eq_false h4, Bool.false_and, Bool.false_and]
    go_enter Try.func80, Try.ntmps80
    go_wp2
    go_ret
    exact ⟨rfl, Grows.refl _⟩
theorem kidsrise_any (ad : Addr) (o : Own) (h : Hang) (K : Fo) (ok : Nat → Prop) (w : World) (hr : RecAt w ok (some ad) 0 (nodeCells o h)) (hn : NodeOn w ok o K h) (hc : lenF K ≤ 1000000) :
    Calls Try.prog 62 #[.pointer (some ad)] w fun e w' => e = .returned (.bool (riseB (tops K))) ∧ Grows w w' := by
  have c11 := rec_cell hr (j := 10) rfl
  have C := riseN_any h.ak h.nk h.ck K ok w hn.klen (by rw [← hn.klen]; exact hc) hn.kids
  generalize riseB (tops K) = b at *
  go_enter Try.func62, Try.ntmps62
  go_wp2_with fail
  refine C.mono ?_
  rintro e w' ⟨rfl, hg⟩
  go_wp2
  go_ret
  exact ⟨rfl, hg⟩
end Go.Proofs.Ytanofmejokgijaa
