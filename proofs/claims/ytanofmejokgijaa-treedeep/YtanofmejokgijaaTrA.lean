/-
  tree.Count, tree.Depth: how many nodes there are, how deep it is. Condition: fewer than a million nodes.
-/
import Derived.Test.YtanofmejokgijaaThR
import Derived.Test.YtanofmejokgijaaRAro
namespace Go.Proofs.Ytanofmejokgijaa
open Go.RowKit
set_option linter.unusedVariables false

/-- A node's cells, as a walk asks them. -/
theorem rec_cell {w : World} {ok : Nat → Prop} {ad : Addr} {vs : List Value} (h : RecAt w ok (some ad) 0 vs) {j : Nat} {u : Value} (hu : vs[j + 1]? = some u) : w.cell? ⟨ad.block, ad.off + (j + 1), none⟩ = some u := by
  obtain ⟨ad', e, _, hc⟩ := h
  injection e with e
  subst e
  have := hc (j + 1) u hu
  rw [Nat.zero_mul, Nat.zero_add] at this
  simpa [Addr.add] using this
theorem rec_cell0 {w : World} {ok : Nat → Prop} {ad : Addr} {vs : List Value} (h : RecAt w ok (some ad) 0 vs) {u : Value} (hu : vs[0]? = some u) : w.cell? ad = some u := by
  obtain ⟨ad', e, _, hc⟩ := h
  injection e with e
  subst e
  have := hc 0 u hu
  rwa [Nat.zero_mul, Nat.zero_add, add_zero_addr] at this
theorem rec_block {w : World} {ok : Nat → Prop} {ad : Addr} {vs : List Value} (h : RecAt w ok (some ad) 0 vs) : ok ad.block := by
  obtain ⟨ad', e, hb, _⟩ := h
  injection e with e
  subst e
  exact hb
theorem but_set (w : World) (b o : Nat) (u : Value) : w.grownBy (w.setCell ⟨b, o, none⟩ u) (some b) := ⟨rfl, rfl, rfl, by simp [World.setCell], fun k hk hne => Below.heap_setCell w _ u k fun e => hne (by rw [e])⟩

set_option maxHeartbeats 400000 in
theorem count1_any (ad : Addr) (d : Int) (cb : Nat) (c : Int) (ok : Nat → Prop) (o : Own) (h : Hang) (w : World) (hr : RecAt w ok (some ad) 0 (nodeCells o h)) (hb : Has w cb [.int .i64 c]) (hne : ¬ ok cb) (hc : 0 ≤ c ∧ c ≤ 1000000000) :
    Calls Try.prog 36 #[.pointer (some ad), .int .i64 d, .pointer (some ⟨cb, 0, none⟩)] w fun e w' => e = .returned (.slice h.ak h.nk h.ck) ∧ w' = w.setCell ⟨cb, 0, none⟩ (.int .i64 (c + 1)) := by
  have c0 := hb.cell (k := 0) rfl
  have f0 := hb.free 0
  have hT := Turns.of_set (S := fun k => k = cb) (b := cb) (o := 0) w (.int .i64 (c + 1)) rfl
  have c11 := rec_cell (hr.turn hT (fun k hk e => hne (e ▸ hk))) (j := 10) rfl
  clear hT hr hb
  go_enter Try.func36, Try.ntmps36
  go_wp2
  go_ret
  exact ⟨rfl, rfl⟩

def sumK : List Fo → Nat
  | [] => 0
  | K :: l => sizeF K + sumK l
theorem sumK_app (l r : List Fo) : sumK (l ++ r) = sumK l + sumK r := by
  induction l with
  | nil => simp [sumK]
  | cons p l ih => simp [sumK, ih]; omega

/-- What a list of one node, new, is. -/
theorem top_on {w : World} {o : Own} {k : Fo} {h : Hang} {ok : Nat → Prop} (t : TypeId) (hn : NodeOn w ok o k h) (hk : ∀ b, ok b → b < w.heap.size) (ok' : Nat → Prop) (ho : ∀ b, ok b → ok' b) (ht : ok' w.heap.size) : FrOn (w.alloc (.cells (nodeCells o h).toArray t)) ok' (⟨some ⟨w.heap.size, 0, none⟩, 1, 1⟩, .cons o k .nil) := by
  refine ⟨rfl, Nat.le_refl _, KidsOn.mk (h := h) ⟨_, rfl, ht, fun j u hu => ?_⟩ ((hn.later (grows_alloc w _)).mono ho) trivial⟩
  rw [add_plain, Nat.zero_mul, Nat.zero_add, Nat.zero_add]
  exact (Has.new w t (nodeCells o h)).cell hu

/-- A node's cells, under letters. -/
theorem node12 (o : Own) (h : Hang) : ∃ v0 v1 v2 v3 v4 v5 v6 v7 v8 v9 v10 v11, nodeCells o h = [v0, v1, v2, v3, v4, v5, v6, v7, v8, v9, v10, v11] := ⟨_, _, _, _, _, _, _, _, _, _, _, _, rfl⟩
/-- What a new list of one node is. -/
def TopIs (o : Own) (k : Fo) (vs : List Value) : Prop := ∀ (W : World) (ok ok' : Nat → Prop) (h : Hang), nodeCells o h = vs → NodeOn W ok o k h → (∀ b, ok b → b < W.heap.size) → (∀ b, ok b → ok' b) → ok' W.heap.size → FrOn (W.alloc (.cells vs.toArray 28)) ok' (⟨some ⟨W.heap.size, 0, none⟩, 1, 1⟩, .cons o k .nil)
theorem top_is (o : Own) (k : Fo) (vs : List Value) : TopIs o k vs := fun W ok ok' h e h1 h2 h3 h4 => by subst e; exact top_on 28 h1 h2 ok' h3 h4

set_option maxHeartbeats 1000000 in
theorem count_any (o : Own) (k : Fo) (h : Hang) (ok : Nat → Prop) (w : World) (hn : NodeOn w ok o k h) (hk : sizeF k ≤ 999990) :
    Calls Try.prog 16 #[nv o h] w fun e w' => e = .returned (.int .i64 (1 + sizeF k)) ∧ Grows w w' := by
  have hlow := hn.low
  obtain ⟨v0, v1, v2, v3, v4, v5, v6, v7, v8, v9, v10, v11, hvs⟩ := node12 o h
  unfold nv
  rw [hvs]
  have HV := Lib.hid hvs
  clear hvs hn
  go_enter Try.func16, Try.ntmps16
  go_wp2_with fail
  obtain ⟨W, hW⟩ : ∃ W, W = ((w.alloc (.cells #[v0, v1, v2, v3, v4, v5, v6, v7, v8, v9, v10, v11] 28)).alloc (.cells #[.int .i64 0] 3)) := ⟨_, rfl⟩
  have hsz : W.heap.size = w.heap.size + 1 + 1 := by rw [hW]; simp
  have hcb : Has W (w.heap.size + 1) [.int .i64 0] := by rw [hW]; have := Has.new (w.alloc (.cells #[v0, v1, v2, v3, v4, v5, v6, v7, v8, v9, v10, v11] 28)) 3 [.int .i64 0]; rwa [World.size_alloc] at this
  have hg : Grows w W := by rw [hW]; exact Grows.trans (grows_alloc _ _) (grows_alloc _ _)
  rw [← hW, ← hsz]
  clear hW
  have htop := top_is o k [v0, v1, v2, v3, v4, v5, v6, v7, v8, v9, v10, v11] W (· < w.heap.size) (fun b => b < w.heap.size ∨ b = W.heap.size) h HV.out (hlow.later hg) (fun b hb => by omega) (fun b hb => .inl hb) (.inr rfl)
  have hcb2 := hcb.later (grows_alloc W (.cells #[v0, v1, v2, v3, v4, v5, v6, v7, v8, v9, v10, v11] 28))
  have hg2 := Grows.trans hg (grows_alloc W (.cells #[v0, v1, v2, v3, v4, v5, v6, v7, v8, v9, v10, v11] 28))
  have hsz2 : (W.alloc (.cells #[v0, v1, v2, v3, v4, v5, v6, v7, v8, v9, v10, v11] 28)).heap.size = W.heap.size + 1 := World.size_alloc _ _
  refine (thrR_any 36 #[.pointer (some ⟨w.heap.size + 1, 0, none⟩)] (fun x y u => enter_plain Try.func36 (by kernel_rfl) (by kernel_rfl) _ u)
    (fun Ks G u => ∃ c : Nat, Has u (w.heap.size + 1) [.int .i64 c] ∧ c + sumK Ks = 1 + sizeF k ∧ Grows w u) (fun b => b < w.heap.size ∨ b = W.heap.size) (fun b => b = w.heap.size + 1) (W.heap.size + 1) (fun b hb => by omega) (fun b hb => by omega)
    ?_ ?_ ?_ _ (.cons o k .nil) _ (by rw [hsz2]; exact Nat.le_refl _) htop ⟨0, hcb2, by simp [sumK, sizeF], hg2⟩ (by simp only [sizeF]; omega)).mono ?_
  · rintro Ks G G' u u' hbu ⟨c, h1, h2, h3⟩ hG hby _
    refine ⟨c, h1.turned (S := fun b => W.heap.size + 1 ≤ b) (Turns.of_by hby fun g e _ => (hG g e).1) (by omega), h2, ?_⟩
    exact h3.grown hby h3.size (fun g e => by have := (hG g e).1; omega)
  · rintro Ks G u ⟨c, h1, h2, h3⟩
    refine ⟨c, h1, ?_, h3⟩
    rw [sumK_app] at h2
    simpa [sumK, sizeF] using h2
  · rintro Ks o' k' r' h' ad G u hbu hG ⟨c, h1, h2, h3⟩ hrec hno hlen
    rw [sumK_app] at h2
    simp only [sumK, sizeF] at h2
    refine (count1_any ad _ (w.heap.size + 1) c _ o' h' u hrec h1 (by omega) (by omega)).mono ?_
    rintro e u' ⟨rfl, rfl⟩
    refine ⟨k', .inl ⟨rfl, rfl⟩, ⟨c + 1, ?_, ?_, ?_⟩, Turns.of_set u _ rfl, fun g e => ?_⟩
    · have := h1.set_ (k := 0) (by simp) (.int .i64 ((c : Int) + 1))
      simpa using this
    · rw [sumK_app]; simp only [sumK]; omega
    · exact Below.setCell h3 (p := ⟨w.heap.size + 1, 0, none⟩) (by show w.heap.size ≤ w.heap.size + 1; omega) _
    · have := (hG g e).1
      exact Below.heap_setCell u _ _ g (by show g ≠ w.heap.size + 1; omega)
  · rintro e u ⟨rfl, G, ⟨c, h1, h2, h3⟩, _⟩
    have hc0 := h1.cell (k := 0) rfl
    have H2 := Lib.hid h2
    clear h2 htop hcb hcb2
    go_wp2
    go_ret
    have := H2.out
    simp only [sumK] at this
    exact ⟨ret_int (by omega), h3⟩
end Go.Proofs.Ytanofmejokgijaa
