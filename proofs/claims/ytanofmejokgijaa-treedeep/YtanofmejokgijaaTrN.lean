/-
  tree.Walk: it answers all entries.
-/
import Derived.Test.YtanofmejokgijaaTrM
namespace Go.Proofs.Ytanofmejokgijaa
open Go.RowKit
set_option linter.unusedVariables false

/-- What Walk answers. -/
def WalkOut (o : Own) (k : Fo) (w : World) (e : Ending) (w' : World) : Prop :=
  ∃ (A : Option Addr) (c : Nat) (es : List (List (List UInt8) × Own × Hang)), e = .returned (.slice A (1 + sizeF k) c) ∧ (es.map fun e => (e.1, e.2.1)) = ([], o) :: comps [] k ∧ w'.ownsRow w.heap.size 43 13 (.slice A (1 + sizeF k) c) (1 + sizeF k) (es.map ec).flatten ∧
    (∀ e ∈ es, OwnOn w' (w.heap.size ≤ ·) e.2.1 e.2.2 ∧ (e.2.2.ak = none ∧ e.2.2.nk = 0 ∧ e.2.2.ck = 0)) ∧ Grows w w'

set_option maxRecDepth 20000 in
set_option maxHeartbeats 2000000 in
theorem walk_any (o : Own) (k : Fo) (h : Hang) (ok : Nat → Prop) (w : World) (hn : NodeOn w ok o k h) (hk : sizeF k ≤ 10000) (hso : smallO o) (hsk : smallF k) :
    Calls Try.prog 19 #[nv o h] w fun e w' => WalkOut o k w e w' := by
  have hlow := hn.low
  obtain ⟨v0, v1, v2, v3, v4, v5, v6, v7, v8, v9, v10, v11, hvs⟩ := node12 o h
  unfold nv
  rw [hvs]
  have HV := Lib.hid hvs
  clear hvs hn
  go_enter Try.func19, Try.ntmps19
  go_wp2_with fail
  obtain ⟨W, hW⟩ : ∃ W, W = (((w.alloc (.cells #[v0, v1, v2, v3, v4, v5, v6, v7, v8, v9, v10, v11] 28)).alloc (.cells #[.slice none 0 0] 40)).alloc (.cells #[.slice none 0 0] 60)) := ⟨_, rfl⟩
  have hsz : W.heap.size = w.heap.size + 1 + 1 + 1 := by rw [hW]; simp
  have hbl : Has W (w.heap.size + 1) [.slice none 0 0] := by
    rw [hW]
    have := (Has.new (w.alloc (.cells #[v0, v1, v2, v3, v4, v5, v6, v7, v8, v9, v10, v11] 28)) 40 [.slice none 0 0]).later (grows_alloc _ (.cells #[.slice none 0 0] 60))
    rwa [World.size_alloc] at this
  have hbn : Has W (w.heap.size + 1 + 1) [.slice none 0 0] := by
    rw [hW]
    have := Has.new ((w.alloc (.cells #[v0, v1, v2, v3, v4, v5, v6, v7, v8, v9, v10, v11] 28)).alloc (.cells #[.slice none 0 0] 40)) 60 [.slice none 0 0]
    rwa [World.size_alloc, World.size_alloc] at this
  have hg : Grows w W := by rw [hW]; exact Grows.trans (grows_alloc _ _) (Grows.trans (grows_alloc _ _) (grows_alloc _ _))
  rw [← hW, ← hsz]
  clear hW
  have htop := top_is o k [v0, v1, v2, v3, v4, v5, v6, v7, v8, v9, v10, v11] W (· < w.heap.size) (fun b => b < w.heap.size ∨ b = W.heap.size) h HV.out (hlow.later hg) (fun b hb => by omega) (fun b hb => .inl hb) (.inr rfl)
  have hbl2 := hbl.later (grows_alloc W (.cells #[v0, v1, v2, v3, v4, v5, v6, v7, v8, v9, v10, v11] 28))
  have hbn2 := hbn.later (grows_alloc W (.cells #[v0, v1, v2, v3, v4, v5, v6, v7, v8, v9, v10, v11] 28))
  have hg2 := Grows.trans hg (grows_alloc W (.cells #[v0, v1, v2, v3, v4, v5, v6, v7, v8, v9, v10, v11] 28))
  have hsz2 : (W.alloc (.cells #[v0, v1, v2, v3, v4, v5, v6, v7, v8, v9, v10, v11] 28)).heap.size = W.heap.size + 1 := World.size_alloc _ _
  refine (thrR_any 41 #[.pointer (some ⟨w.heap.size + 1 + 1, 0, none⟩), .pointer (some ⟨w.heap.size + 1, 0, none⟩)] (fun x y u => enter_plain Try.func41 (by kernel_rfl) (by kernel_rfl) _ u)
    (fun Ks G u => WalkI (w.heap.size + 1 + 1) (w.heap.size + 1) (W.heap.size + 1) (([], o) :: comps [] k) w Ks G u) (fun b => b < w.heap.size ∨ b = W.heap.size) (fun b => b = w.heap.size + 1 + 1 ∨ b = w.heap.size + 1 ∨ W.heap.size + 1 ≤ b) (W.heap.size + 1) (fun b hb => by omega) (fun b hb => by omega)
    ?_ ?_ ?_ _ (.cons o k .nil) _ (by rw [hsz2]; exact Nat.le_refl _) htop ?_ (by simp only [sizeF]; omega)).mono ?_
  · rintro Ks G G' u u' hbu hI hG hby hat
    exact walkI_frame (by omega) (by omega) (by omega) hbu hI hG hby hat
  · rintro Ks G u ⟨⟨nn, lv, ns, es, okE, h1, h2, h3, h4, h5, h6, h7, h8, h9⟩, hs, hm, hgr⟩
    rw [smallKs_app] at hs
    rw [List.length_append, List.length_singleton] at h5 hm
    rw [sumK_app] at hm
    refine ⟨⟨nn, lv, ns, es, okE, h1, h2, h3, h4, by omega, h6, h7, ?_, h9⟩, hs.1, by omega, hgr⟩
    rw [← h8, restE_app]
    have : restE ns (0 + Ks.length) [.nil] = [] := by simp only [restE, List.nil_append, lev]; split <;> rfl
    rw [this, List.nil_append]
  · rintro Ks o' k' r' h' ad G u hbu hG hI hrec hno hlen
    exact walkI_see (by omega) (by omega) (by omega) (by omega) (by omega) (by rw [List.length_cons, comps_len]; omega) _ (fun b hb => by omega) Ks o' k' r' h' ad G u hbu hG hI hrec hno
  · refine ⟨⟨.slice none 0 0, .slice none 0 0, [], [], fun _ => False, hbn2, hbl2, World.ownsRow_nil _ _ _ _, World.ownsRow_nil _ _ _ _, by simp, by simp, by simp, by simp [restE, lev, rootE], fun h => absurd rfl h, fun g e => by simp [Value.ownBlock], fun k hk => hk.elim, by simp⟩, ⟨⟨hso, hsk, trivial⟩, trivial⟩, ?_, hg2⟩
    simp only [sumK, sizeF, List.length_cons, List.length_nil]; omega
  · rintro e u ⟨rfl, G, ⟨⟨nn, lv, ns, es, okE, h1, h2, h3, h4, h5, h6, h7, h8, h9, h10, h11, h12⟩, hs, hm, hgr⟩, _⟩
    obtain ⟨Al, cl, rfl, hcl⟩ := own_form h4
    have hc0 := h2.cell (k := 0) rfl
    have hel : es.length = 1 + sizeF k := by have := congrArg List.length h8; simp [restE, comps_len] at this; omega
    rw [hel] at hc0
    have FIN : WalkOut o k w (.returned (.slice Al (1 + sizeF k) cl)) u := by
      refine ⟨Al, cl, es, rfl, by simpa [restE] using h8, ?_, fun e he => ⟨(h12 e he).1.mono (fun b hb => by have := (h11 b hb).2.1; omega), (h12 e he).2⟩, hgr⟩
      rw [hel] at h4
      exact own_base h4 (by omega)
    have HF := Lib.hid FIN
    clear h1 h2 h3 h4 h5 h6 h7 h8 h9 h10 h11 h12 hs hm htop hbl hbn hbl2 hbn2 hlow FIN hel
    go_wp2
    go_ret
    exact HF.out
end Go.Proofs.Ytanofmejokgijaa
