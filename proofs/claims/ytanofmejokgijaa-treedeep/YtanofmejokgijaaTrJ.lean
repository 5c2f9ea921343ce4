/-
  tree.Depth, May: they answer deepF, mayOf.
-/
import Derived.Test.YtanofmejokgijaaTrI
namespace Go.Proofs.Ytanofmejokgijaa
open Go.RowKit
set_option linter.unusedVariables false

/-- The deepest of all that it is still within, and one. -/
def mxK (i : Nat) : List Fo → Nat
  | [] => 0
  | K :: l => max (i + deepF K) (mxK (i + 1) l)
theorem mxK_app (l r : List Fo) (i : Nat) : mxK i (l ++ r) = max (mxK i l) (mxK (i + l.length) r) := by
  induction l generalizing i with
  | nil => simp [mxK]
  | cons K l ih => simp only [List.cons_append, mxK, ih, List.length_cons, show i + 1 + l.length = i + (l.length + 1) by omega]; omega
theorem mx_spec (x y : Nat) : x ≤ max x y ∧ y ≤ max x y ∧ (max x y = x ∨ max x y = y) := by omega
theorem dep_arith (c L a b mx T : Nat) (h1 : L + 1 ≤ c + 1 + 1) (h2 : max (c + 1) (max mx (max (L + (1 + a)) (L + b))) = T) : max (max c L + 1) (max mx (max (L + b) (L + 1 + a))) = T := by
  have e1 := mx_spec (L + (1 + a)) (L + b)
  have e2 := mx_spec mx (max (L + (1 + a)) (L + b))
  have e3 := mx_spec (c + 1) (max mx (max (L + (1 + a)) (L + b)))
  have e4 := mx_spec (L + b) (L + 1 + a)
  have e5 := mx_spec mx (max (L + b) (L + 1 + a))
  have e6 := mx_spec c L
  have e7 := mx_spec (max c L + 1) (max mx (max (L + b) (L + 1 + a)))
  generalize max (max c L + 1) (max mx (max (L + b) (L + 1 + a))) = m7 at *
  generalize max mx (max (L + b) (L + 1 + a)) = m5 at *
  generalize max (L + b) (L + 1 + a) = m4 at *
  generalize max (c + 1) (max mx (max (L + (1 + a)) (L + b))) = m3 at *
  generalize max mx (max (L + (1 + a)) (L + b)) = m2 at *
  generalize max (L + (1 + a)) (L + b) = m1 at *
  generalize max c L = m6 at *
  omega
set_option maxHeartbeats 400000 in
theorem depth1_any (ad : Addr) (d : Nat) (cb : Nat) (c : Nat) (ok : Nat → Prop) (o : Own) (h : Hang) (w : World) (hr : RecAt w ok (some ad) 0 (nodeCells o h)) (hb : Has w cb [.int .i64 c]) (hne : ¬ ok cb) :
    Calls Try.prog 37 #[.pointer (some ad), .int .i64 d, .pointer (some ⟨cb, 0, none⟩)] w fun e w' => e = .returned (.slice h.ak h.nk h.ck) ∧ w' = w.setCell ⟨cb, 0, none⟩ (.int .i64 ((max c d : Nat) : Int)) := by
  have c0 := hb.cell (k := 0) rfl
  have f0 := hb.free 0
  have hT := Turns.of_set (S := fun k => k = cb) (b := cb) (o := 0) w (.int .i64 ((max c d : Nat) : Int)) rfl
  have c11 := rec_cell (hr.turn hT (fun k hk e => hne (e ▸ hk))) (j := 10) rfl
  clear hT hr hb
  rcases Nat.le_total c d with hle | hle
  · have hm : max c d = d := Nat.max_eq_right hle
    rw [hm] at c11 ⊢
    have hmi : max (c : Int) (d : Int) = (d : Int) := by omega
    clear hm
    go_enter Try.func37, Try.ntmps37
    go_wp2
    go_ret
    exact ⟨rfl, rfl⟩
  · have hm : max c d = c := Nat.max_eq_left hle
    rw [hm] at c11 ⊢
    have hmi : max (c : Int) (d : Int) = (c : Int) := by omega
    clear hm
    go_enter Try.func37, Try.ntmps37
    go_wp2
    go_ret
    exact ⟨rfl, rfl⟩

set_option maxHeartbeats 1000000 in
theorem depth_any (o : Own) (k : Fo) (h : Hang) (ok : Nat → Prop) (w : World) (hn : NodeOn w ok o k h) (hk : sizeF k ≤ 999990) :
    Calls Try.prog 17 #[nv o h] w fun e w' => e = .returned (.int .i64 (deepF k)) ∧ Grows w w' := by
  have hlow := hn.low
  obtain ⟨v0, v1, v2, v3, v4, v5, v6, v7, v8, v9, v10, v11, hvs⟩ := node12 o h
  unfold nv
  rw [hvs]
  have HV := Lib.hid hvs
  clear hvs hn
  go_enter Try.func17, Try.ntmps17
  go_wp2_with fail
  obtain ⟨W, hW⟩ : ∃ W, W = ((w.alloc (.cells #[v0, v1, v2, v3, v4, v5, v6, v7, v8, v9, v10, v11] 28)).alloc (.cells #[.int .i64 0] 3)) := ⟨_, rfl⟩
  have hsz : W.heap.size = w.heap.size + 1 + 1 := by rw [hW]; simp
  have hcb : Has W (w.heap.size + 1) [.int .i64 0] := by rw [hW]; have := Has.new (w.alloc (.cells #[v0, v1, v2, v3, v4, v5, v6, v7, v8, v9, v10, v11] 28)) 3 [.int .i64 0]; rwa [World.size_alloc] at this
  have hg : Grows w W := by rw [hW]; exact Grows.trans (grows_alloc _ _) (grows_alloc _ _)
  rw [← hW, ← hsz]
  clear hW
  have htop := top_is o k [v0, v1, v2, v3, v4, v5, v6, v7, v8, v9, v10, v11] W (· < w.heap.size) (fun b => b < w.heap.size ∨ b = W.heap.size) h HV.out (hlow.later hg) (fun b hb => by omega) (fun b hb => .inl hb) (.inr rfl)
  have hcb2 := hcb.later (grows_alloc W (.cells #[v0, v1, v2, v3, v4, v5, v6, v7, v8, v9, v10, v11] 28))
  have hg2 := Grows.trans hg (grows_alloc W (.cells #[v0, v1, v2, v3, v4, v5, v6, v7, v8, v9, v10, v11] 28))
  have hsz2 : (W.alloc (.cells #[v0, v1, v2, v3, v4, v5, v6, v7, v8, v9, v10, v11] 28)).heap.size = W.heap.size + 1 := World.size_alloc _ _
  refine (thrR_any 37 #[.pointer (some ⟨w.heap.size + 1, 0, none⟩)] (fun x y u => enter_plain Try.func37 (by kernel_rfl) (by kernel_rfl) _ u)
    (fun Ks G u => ∃ c : Nat, Has u (w.heap.size + 1) [.int .i64 c] ∧ (Ks.length ≤ c + 2 ∧ max (c + 1) (mxK 0 Ks) = 1 + deepF k) ∧ Grows w u) (fun b => b < w.heap.size ∨ b = W.heap.size) (fun b => b = w.heap.size + 1) (W.heap.size + 1) (fun b hb => by omega) (fun b hb => by omega)
    ?_ ?_ ?_ _ (.cons o k .nil) _ (by rw [hsz2]; exact Nat.le_refl _) htop ⟨0, hcb2, ⟨by simp, by simp [mxK, deepF]⟩, hg2⟩ (by simp only [sizeF]; omega)).mono ?_
  · rintro Ks G G' u u' hbu ⟨c, h1, h2, h3⟩ hG hby _
    refine ⟨c, h1.turned (S := fun b => W.heap.size + 1 ≤ b) (Turns.of_by hby fun g e _ => (hG g e).1) (by omega), h2, ?_⟩
    exact h3.grown hby h3.size (fun g e => by have := (hG g e).1; omega)
  · rintro Ks G u ⟨c, h1, h2, h3⟩
    refine ⟨c, h1, ?_, h3⟩
    rw [mxK_app] at h2
    simp only [mxK, deepF, List.length_append, List.length_singleton] at h2
    exact ⟨by omega, by omega⟩
  · rintro Ks o' k' r' h' ad G u hbu hG ⟨c, h1, h2, h3⟩ hrec hno hlen
    rw [mxK_app] at h2
    simp only [mxK, deepF, List.length_append, List.length_singleton, Nat.zero_add] at h2
    have hmx : Ks.length + max (1 + deepF k') (deepF r') = max (Ks.length + (1 + deepF k')) (Ks.length + deepF r') := by omega
    rw [hmx, Nat.max_zero] at h2
    refine (depth1_any ad Ks.length (w.heap.size + 1) c _ o' h' u hrec h1 (by omega)).mono ?_
    rintro e u' ⟨rfl, rfl⟩
    refine ⟨k', .inl ⟨rfl, rfl⟩, ⟨max c Ks.length, ?_, ?_, ?_⟩, Turns.of_set u _ rfl, fun g e => ?_⟩
    · have := h1.set_ (k := 0) (by simp) (.int .i64 ((max c Ks.length : Nat) : Int))
      simpa using this
    · rw [mxK_app]; simp only [mxK, List.length_append, List.length_cons, List.length_nil, Nat.zero_add, Nat.max_zero]; exact ⟨by omega, dep_arith c Ks.length (deepF k') (deepF r') _ _ (by omega) h2.2⟩
    · exact Below.setCell h3 (p := ⟨w.heap.size + 1, 0, none⟩) (by show w.heap.size ≤ w.heap.size + 1; omega) _
    · have := (hG g e).1
      exact Below.heap_setCell u _ _ g (by show g ≠ w.heap.size + 1; omega)
  · rintro e u ⟨rfl, G, ⟨c, h1, h2, h3⟩, _⟩
    have hc0 := h1.cell (k := 0) rfl
    have H2 := Lib.hid h2
    clear h2 htop hcb hcb2
    go_wp2
    go_ret
    have := H2.out
    simp only [mxK] at this
    exact ⟨ret_int (by omega), h3⟩

set_option maxRecDepth 20000 in
set_option maxHeartbeats 1000000 in
theorem tmay_any (o : Own) (k : Fo) (h : Hang) (ok : Nat → Prop) (w : World) (hn : NodeOn w ok o k h) (hk : sizeF k ≤ 999990) :
    Calls Try.prog 12 #[nv o h] w fun e w' => e = .returned (.int .i64 (mayOf o k)) ∧ Grows w w' := by
  have F1 : ∀ u, Grows w u → Calls Try.prog 31 #[nv o h] u fun e w' => e = .returned (.bool (decide (mayOf o k ≠ 2))) ∧ Grows u w' := fun u hu => by rw [← formed_may]; exact formed_any o k h ok u (hn.later hu) hk
  have D2 : ∀ u, Grows w u → Calls Try.prog 17 #[nv o h] u fun e w' => e = .returned (.int .i64 (deepF k)) ∧ Grows u w' := fun u hu => depth_any o k h ok u (hn.later hu) hk
  have C3 : ∀ u, Grows w u → Calls Try.prog 16 #[nv o h] u fun e w' => e = .returned (.int .i64 (1 + sizeF k)) ∧ Grows u w' := fun u hu => count_any o k h ok u (hn.later hu) hk
  have hval : mayOf o k = 2 ∨ (mayOf o k = if 6 < deepF k ∨ 63 < sizeF k then 3 else 0) := by
    unfold mayOf
    split
    · exact .inr rfl
    · exact .inl rfl
  have h32 : mayOf o k ≠ 2 → mayOf o k = if 6 < deepF k ∨ 63 < sizeF k then 3 else 0 := fun h => hval.resolve_left h
  have hvn := nodeCells_len o h
  obtain ⟨v0, v1, v2, v3, v4, v5, v6, v7, v8, v9, v10, v11, hvs⟩ := node12 o h
  unfold nv at F1 D2 C3 ⊢
  rw [hvs] at F1 D2 C3 ⊢
  have F1' := Lib.hid F1
  have D2' := Lib.hid D2
  have C3' := Lib.hid C3
  have H32 := Lib.hid h32
  have hbox := fun u (hu : Grows (w.alloc (.cells #[v0, v1, v2, v3, v4, v5, v6, v7, v8, v9, v10, v11] 28)) u) => ((Has.new w 28 [v0, v1, v2, v3, v4, v5, v6, v7, v8, v9, v10, v11]).later hu).cells
  generalize mayOf o k = M at *
  generalize deepF k = D at *
  generalize sizeF k = Sz at *
  clear F1 D2 C3 h32 hval hvs hn hvn hbox
  have hg0 := grows_alloc w (.cells #[v0, v1, v2, v3, v4, v5, v6, v7, v8, v9, v10, v11] 28)
  have hb0 := Has.new w 28 [v0, v1, v2, v3, v4, v5, v6, v7, v8, v9, v10, v11]
  have hgo : ∀ u, Grows (w.alloc (.cells #[v0, v1, v2, v3, v4, v5, v6, v7, v8, v9, v10, v11] 28)) u → Has u w.heap.size [v0, v1, v2, v3, v4, v5, v6, v7, v8, v9, v10, v11] := fun u hu => hb0.later hu
  have HB := Lib.hid hgo
  clear hgo hb0
  go_enter Try.func12, Try.ntmps12
  go_wp2_with fail
  refine (F1'.out _ hg0).mono ?_
  rintro e w1 ⟨rfl, hg1⟩
  have hb1 := HB.out w1 hg1
  have p0 := hb1.cell (k := 0) rfl
  have p1 := hb1.cell (k := 1) rfl
  have p2 := hb1.cell (k := 2) rfl
  have p3 := hb1.cell (k := 3) rfl
  have p4 := hb1.cell (k := 4) rfl
  have p5 := hb1.cell (k := 5) rfl
  have p6 := hb1.cell (k := 6) rfl
  have p7 := hb1.cell (k := 7) rfl
  have p8 := hb1.cell (k := 8) rfl
  have p9 := hb1.cell (k := 9) rfl
  have p10 := hb1.cell (k := 10) rfl
  have p11 := hb1.cell (k := 11) rfl
  by_cases hm2 : M = 2
  · subst hm2
    have : decide ((2 : Nat) ≠ 2) = false := by decide
    rw [this]
    go_wp2
    go_ret
    exact ⟨rfl, Grows.trans hg0 hg1⟩
  · have hMM := H32.out hm2
    have : decide (M ≠ 2) = true := by simpa using hm2
    rw [this]
    go_wp2_with fail
    refine (D2'.out w1 (Grows.trans hg0 hg1)).mono ?_
    rintro e w2 ⟨rfl, hg2⟩
    have hb2 := HB.out w2 (Grows.trans hg1 hg2)
    have r0 := hb2.cell (k := 0) rfl
    have r1 := hb2.cell (k := 1) rfl
    have r2 := hb2.cell (k := 2) rfl
    have r3 := hb2.cell (k := 3) rfl
    have r4 := hb2.cell (k := 4) rfl
    have r5 := hb2.cell (k := 5) rfl
    have r6 := hb2.cell (k := 6) rfl
    have r7 := hb2.cell (k := 7) rfl
    have r8 := hb2.cell (k := 8) rfl
    have r9 := hb2.cell (k := 9) rfl
    have r10 := hb2.cell (k := 10) rfl
    have r11 := hb2.cell (k := 11) rfl
    clear hb1
    by_cases hd : 6 < D
    · have hd' : decide ((6 : Int) < (D : Int)) = true := by simp; omega
      rw [if_pos (.inl hd)] at hMM
      subst hMM
      go_wp2
      go_ret
      exact ⟨rfl, Grows.trans hg0 (Grows.trans hg1 hg2)⟩
    · have hd' : decide ((6 : Int) < (D : Int)) = false := by simp; omega
      go_wp2_with fail
      refine (C3'.out w2 (Grows.trans hg0 (Grows.trans hg1 hg2))).mono ?_
      rintro e w3 ⟨rfl, hg3⟩
      by_cases hs : 63 < Sz
      · have hs' : decide ((64 : Int) < 1 + (Sz : Int)) = true := by simp; omega
        rw [if_pos (.inr hs)] at hMM
        subst hMM
        go_wp2
        go_ret
        exact ⟨rfl, Grows.trans hg0 (Grows.trans hg1 (Grows.trans hg2 hg3))⟩
      · have hs' : decide ((64 : Int) < 1 + (Sz : Int)) = false := by simp; omega
        rw [if_neg (by omega)] at hMM
        subst hMM
        go_wp2
        go_ret
        exact ⟨rfl, Grows.trans hg0 (Grows.trans hg1 (Grows.trans hg2 hg3))⟩
end Go.Proofs.Ytanofmejokgijaa
