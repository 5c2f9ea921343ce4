/-
  tree.formed, Depth, May: they answer allB, deepF, mayOf.
-/
import Derived.Test.YtanofmejokgijaaTrH
namespace Go.Proofs.Ytanofmejokgijaa
open Go.RowKit
set_option linter.unusedVariables false

theorem node10 (o : Own) (h : Hang) : ∃ v2 v3 v4 v5 v6 v7 v8 v9 v10 v11, nodeCells o h = [.int .i64 o.kind, tv o.name, v2, v3, v4, v5, v6, v7, v8, v9, v10, v11] := ⟨_, _, _, _, _, _, _, _, _, _, rfl⟩
theorem len_size (K : Fo) : lenF K ≤ sizeF K := by
  induction K with
  | nil => simp [lenF, sizeF]
  | cons o k r _ ir => simp only [lenF, sizeF]; omega

set_option maxRecDepth 20000 in
set_option maxHeartbeats 2000000 in
theorem formed_any (o : Own) (k : Fo) (h : Hang) (ok : Nat → Prop) (w : World) (hn : NodeOn w ok o k h) (hk : sizeF k ≤ 999990) :
    Calls Try.prog 31 #[nv o h] w fun e w' => e = .returned (.bool ((decide (o.kind = 1) && (o.name == [])) && allB 0 (.cons o k .nil))) ∧ Grows w w' := by
  have hlow := hn.low
  obtain ⟨v2, v3, v4, v5, v6, v7, v8, v9, v10, v11, hvs⟩ := node10 o h
  unfold nv
  rw [hvs]
  have HV := Lib.hid hvs
  clear hvs hn
  have walk : ∀ (b1 b2 g0 T0 : Bool), T0 = (g0 && allB 0 (.cons o k .nil)) → (∀ t, binOp .eql t (tv o.name) (.string ⟨#[]⟩) = (pure (.bool b2) : Sem Value)) → (o.kind == 1) = b1 → g0 = (b1 && b2) →
      Calls Try.prog 31 #[.agg [.int .i64 o.kind, tv o.name, v2, v3, v4, v5, v6, v7, v8, v9, v10, v11].toArray] w fun e w' => e = .returned (.bool T0) ∧ Grows w w' := by
    intro b1 b2 g0 T0 hT0 e1 e2 hg0
    have HT0 := Lib.hid hT0
    clear hT0
    have HG := Lib.hid hg0
    clear hg0
    go_enter Try.func31, Try.ntmps31
    cases b1
    · cases b2
      · have hg00 := HG.out
        clear HG
        simp only [Bool.and_true, Bool.and_false, Bool.true_and, Bool.false_and] at hg00
        subst hg00
        go_wp2_with fail
        obtain ⟨W, hW⟩ : ∃ W, W = ((w.alloc (.cells #[.int .i64 o.kind, tv o.name, v2, v3, v4, v5, v6, v7, v8, v9, v10, v11] 28)).alloc (.cells #[.bool false] 4)) := ⟨_, rfl⟩
        have hsz : W.heap.size = w.heap.size + 1 + 1 := by rw [hW]; simp
        have hcb := Has.new (w.alloc (.cells #[.int .i64 o.kind, tv o.name, v2, v3, v4, v5, v6, v7, v8, v9, v10, v11] 28)) 4 [.bool false]
        rw [World.size_alloc] at hcb
        change Has ((w.alloc (.cells #[.int .i64 o.kind, tv o.name, v2, v3, v4, v5, v6, v7, v8, v9, v10, v11] 28)).alloc (.cells #[.bool false] 4)) _ _ at hcb
        rw [← hW] at hcb
        have hg : Grows w W := by rw [hW]; exact Grows.trans (grows_alloc _ _) (grows_alloc _ _)
        rw [← hW, ← hsz]
        clear hW
        have htop := top_is o k [.int .i64 o.kind, tv o.name, v2, v3, v4, v5, v6, v7, v8, v9, v10, v11] W (· < w.heap.size) (fun b => b < w.heap.size ∨ b = W.heap.size) h HV.out (hlow.later hg) (fun b hb => by omega) (fun b hb => .inl hb) (.inr rfl)
        have hcb2 := hcb.later (grows_alloc W (.cells #[.int .i64 o.kind, tv o.name, v2, v3, v4, v5, v6, v7, v8, v9, v10, v11] 28))
        have hg2 := Grows.trans hg (grows_alloc W (.cells #[.int .i64 o.kind, tv o.name, v2, v3, v4, v5, v6, v7, v8, v9, v10, v11] 28))
        have hsz2 : (W.alloc (.cells #[.int .i64 o.kind, tv o.name, v2, v3, v4, v5, v6, v7, v8, v9, v10, v11] 28)).heap.size = W.heap.size + 1 := World.size_alloc _ _
        refine (thrR_any 59 #[.pointer (some ⟨w.heap.size + 1, 0, none⟩)] (fun x y u => enter_plain Try.func59 (by kernel_rfl) (by kernel_rfl) _ u)
          (fun Ks G u => sumK Ks ≤ 1 + sizeF k ∧ ∃ c : Bool, Has u (w.heap.size + 1) [.bool c] ∧ (c && stackB 0 Ks) = T0 ∧ Grows w u) (fun b => b < w.heap.size ∨ b = W.heap.size) (fun b => b = w.heap.size + 1) (W.heap.size + 1) (fun b hb => by omega) (fun b hb => by omega)
          ?_ ?_ ?_ _ (.cons o k .nil) _ (by rw [hsz2]; exact Nat.le_refl _) htop ⟨by simp [sumK, sizeF], false, hcb2, by rw [HT0.out]; simp [stackB], hg2⟩ (by simp only [sizeF]; omega)).mono ?_
        · rintro Ks G G' u u' hbu ⟨h0, c, h1, h2, h3⟩ hG hby _
          refine ⟨h0, c, h1.turned (S := fun b => W.heap.size + 1 ≤ b) (Turns.of_by hby fun g e _ => (hG g e).1) (by omega), h2, ?_⟩
          exact h3.grown hby h3.size (fun g e => by have := (hG g e).1; omega)
        · rintro Ks G u ⟨h0, c, h1, h2, h3⟩
          rw [sumK_app] at h0
          refine ⟨by omega, c, h1, ?_, h3⟩
          rw [stackB_app] at h2
          simpa [stackB, allB] using h2
        · rintro Ks o' k' r' h' ad G u hbu hG ⟨h0, c, h1, h2, h3⟩ hrec hno hlen
          rw [stackB_app] at h2
          rw [sumK_app] at h0
          simp only [stackB, allB, Nat.zero_add, Bool.and_true, sumK, sizeF] at h2 h0
          have hlk : lenF k' ≤ 1000000 := by have := len_size k'; omega
          refine (formed1_any ad Ks.length (w.heap.size + 1) c _ o' k' h' u hrec hno h1 (by omega) (by omega) hlk).mono ?_
          rintro e u' ⟨b, hb, rfl, hb', hT⟩
          have hT3 : Grows w u' := ⟨hT.os.trans h3.os, hT.tape.trans h3.tape, hT.output.trans h3.output, Nat.le_trans h3.size hT.size, fun x hx => (hT.block x (Nat.lt_of_lt_of_le hx h3.size) (by omega)).trans (h3.block x hx)⟩
          have hGG : ∀ g, G = some g → u'.heap[g]? = u.heap[g]? := fun g e => hT.block g (hG g e).2 (by have := (hG g e).1; omega)
          cases b
          · refine ⟨.nil, .inr ⟨rfl, rfl⟩, ⟨by rw [sumK_app]; simp only [sumK, sizeF]; omega, false, hb', ?_, hT3⟩, hT, hGG⟩
            rw [← h2]
            cases hcc : c
            · simp
            · rw [hcc, Bool.true_and] at hb
              rw [← hb]; simp
          · refine ⟨k', .inl ⟨rfl, rfl⟩, ⟨by rw [sumK_app]; simp only [sumK]; omega, true, hb', ?_, hT3⟩, hT, hGG⟩
            rw [← h2, stackB_app]
            have hcc : c = true ∧ chkN Ks.length o' k' = true := by simpa using hb.symm
            simp only [stackB, hcc.1, hcc.2, Bool.true_and, Nat.zero_add, Bool.and_true]
            rw [Bool.and_comm (allB Ks.length r')]
        · rintro e u ⟨rfl, G, ⟨h0, c, h1, h2, h3⟩, _⟩
          have hc0 := h1.cell (k := 0) rfl
          have h2' : c = T0 := by simpa [stackB] using h2
          subst h2'
          clear h2 htop hcb hcb2
          go_wp2
          go_ret
          exact ⟨rfl, h3⟩
      · have hg00 := HG.out
        clear HG
        simp only [Bool.and_true, Bool.and_false, Bool.true_and, Bool.false_and] at hg00
        subst hg00
        go_wp2_with fail
        obtain ⟨W, hW⟩ : ∃ W, W = ((w.alloc (.cells #[.int .i64 o.kind, tv o.name, v2, v3, v4, v5, v6, v7, v8, v9, v10, v11] 28)).alloc (.cells #[.bool false] 4)) := ⟨_, rfl⟩
        have hsz : W.heap.size = w.heap.size + 1 + 1 := by rw [hW]; simp
        have hcb := Has.new (w.alloc (.cells #[.int .i64 o.kind, tv o.name, v2, v3, v4, v5, v6, v7, v8, v9, v10, v11] 28)) 4 [.bool false]
        rw [World.size_alloc] at hcb
        change Has ((w.alloc (.cells #[.int .i64 o.kind, tv o.name, v2, v3, v4, v5, v6, v7, v8, v9, v10, v11] 28)).alloc (.cells #[.bool false] 4)) _ _ at hcb
        rw [← hW] at hcb
        have hg : Grows w W := by rw [hW]; exact Grows.trans (grows_alloc _ _) (grows_alloc _ _)
        rw [← hW, ← hsz]
        clear hW
        have htop := top_is o k [.int .i64 o.kind, tv o.name, v2, v3, v4, v5, v6, v7, v8, v9, v10, v11] W (· < w.heap.size) (fun b => b < w.heap.size ∨ b = W.heap.size) h HV.out (hlow.later hg) (fun b hb => by omega) (fun b hb => .inl hb) (.inr rfl)
        have hcb2 := hcb.later (grows_alloc W (.cells #[.int .i64 o.kind, tv o.name, v2, v3, v4, v5, v6, v7, v8, v9, v10, v11] 28))
        have hg2 := Grows.trans hg (grows_alloc W (.cells #[.int .i64 o.kind, tv o.name, v2, v3, v4, v5, v6, v7, v8, v9, v10, v11] 28))
        have hsz2 : (W.alloc (.cells #[.int .i64 o.kind, tv o.name, v2, v3, v4, v5, v6, v7, v8, v9, v10, v11] 28)).heap.size = W.heap.size + 1 := World.size_alloc _ _
        refine (thrR_any 59 #[.pointer (some ⟨w.heap.size + 1, 0, none⟩)] (fun x y u => enter_plain Try.func59 (by kernel_rfl) (by kernel_rfl) _ u)
          (fun Ks G u => sumK Ks ≤ 1 + sizeF k ∧ ∃ c : Bool, Has u (w.heap.size + 1) [.bool c] ∧ (c && stackB 0 Ks) = T0 ∧ Grows w u) (fun b => b < w.heap.size ∨ b = W.heap.size) (fun b => b = w.heap.size + 1) (W.heap.size + 1) (fun b hb => by omega) (fun b hb => by omega)
          ?_ ?_ ?_ _ (.cons o k .nil) _ (by rw [hsz2]; exact Nat.le_refl _) htop ⟨by simp [sumK, sizeF], false, hcb2, by rw [HT0.out]; simp [stackB], hg2⟩ (by simp only [sizeF]; omega)).mono ?_
        · rintro Ks G G' u u' hbu ⟨h0, c, h1, h2, h3⟩ hG hby _
          refine ⟨h0, c, h1.turned (S := fun b => W.heap.size + 1 ≤ b) (Turns.of_by hby fun g e _ => (hG g e).1) (by omega), h2, ?_⟩
          exact h3.grown hby h3.size (fun g e => by have := (hG g e).1; omega)
        · rintro Ks G u ⟨h0, c, h1, h2, h3⟩
          rw [sumK_app] at h0
          refine ⟨by omega, c, h1, ?_, h3⟩
          rw [stackB_app] at h2
          simpa [stackB, allB] using h2
        · rintro Ks o' k' r' h' ad G u hbu hG ⟨h0, c, h1, h2, h3⟩ hrec hno hlen
          rw [stackB_app] at h2
          rw [sumK_app] at h0
          simp only [stackB, allB, Nat.zero_add, Bool.and_true, sumK, sizeF] at h2 h0
          have hlk : lenF k' ≤ 1000000 := by have := len_size k'; omega
          refine (formed1_any ad Ks.length (w.heap.size + 1) c _ o' k' h' u hrec hno h1 (by omega) (by omega) hlk).mono ?_
          rintro e u' ⟨b, hb, rfl, hb', hT⟩
          have hT3 : Grows w u' := ⟨hT.os.trans h3.os, hT.tape.trans h3.tape, hT.output.trans h3.output, Nat.le_trans h3.size hT.size, fun x hx => (hT.block x (Nat.lt_of_lt_of_le hx h3.size) (by omega)).trans (h3.block x hx)⟩
          have hGG : ∀ g, G = some g → u'.heap[g]? = u.heap[g]? := fun g e => hT.block g (hG g e).2 (by have := (hG g e).1; omega)
          cases b
          · refine ⟨.nil, .inr ⟨rfl, rfl⟩, ⟨by rw [sumK_app]; simp only [sumK, sizeF]; omega, false, hb', ?_, hT3⟩, hT, hGG⟩
            rw [← h2]
            cases hcc : c
            · simp
            · rw [hcc, Bool.true_and] at hb
              rw [← hb]; simp
          · refine ⟨k', .inl ⟨rfl, rfl⟩, ⟨by rw [sumK_app]; simp only [sumK]; omega, true, hb', ?_, hT3⟩, hT, hGG⟩
            rw [← h2, stackB_app]
            have hcc : c = true ∧ chkN Ks.length o' k' = true := by simpa using hb.symm
            simp only [stackB, hcc.1, hcc.2, Bool.true_and, Nat.zero_add, Bool.and_true]
            rw [Bool.and_comm (allB Ks.length r')]
        · rintro e u ⟨rfl, G, ⟨h0, c, h1, h2, h3⟩, _⟩
          have hc0 := h1.cell (k := 0) rfl
          have h2' : c = T0 := by simpa [stackB] using h2
          subst h2'
          clear h2 htop hcb hcb2
          go_wp2
          go_ret
          exact ⟨rfl, h3⟩
    · cases b2
      · have hg00 := HG.out
        clear HG
        simp only [Bool.and_true, Bool.and_false, Bool.true_and, Bool.false_and] at hg00
        subst hg00
        go_wp2_with fail
        obtain ⟨W, hW⟩ : ∃ W, W = ((w.alloc (.cells #[.int .i64 o.kind, tv o.name, v2, v3, v4, v5, v6, v7, v8, v9, v10, v11] 28)).alloc (.cells #[.bool false] 4)) := ⟨_, rfl⟩
        have hsz : W.heap.size = w.heap.size + 1 + 1 := by rw [hW]; simp
        have hcb := Has.new (w.alloc (.cells #[.int .i64 o.kind, tv o.name, v2, v3, v4, v5, v6, v7, v8, v9, v10, v11] 28)) 4 [.bool false]
        rw [World.size_alloc] at hcb
        change Has ((w.alloc (.cells #[.int .i64 o.kind, tv o.name, v2, v3, v4, v5, v6, v7, v8, v9, v10, v11] 28)).alloc (.cells #[.bool false] 4)) _ _ at hcb
        rw [← hW] at hcb
        have hg : Grows w W := by rw [hW]; exact Grows.trans (grows_alloc _ _) (grows_alloc _ _)
        rw [← hW, ← hsz]
        clear hW
        have htop := top_is o k [.int .i64 o.kind, tv o.name, v2, v3, v4, v5, v6, v7, v8, v9, v10, v11] W (· < w.heap.size) (fun b => b < w.heap.size ∨ b = W.heap.size) h HV.out (hlow.later hg) (fun b hb => by omega) (fun b hb => .inl hb) (.inr rfl)
        have hcb2 := hcb.later (grows_alloc W (.cells #[.int .i64 o.kind, tv o.name, v2, v3, v4, v5, v6, v7, v8, v9, v10, v11] 28))
        have hg2 := Grows.trans hg (grows_alloc W (.cells #[.int .i64 o.kind, tv o.name, v2, v3, v4, v5, v6, v7, v8, v9, v10, v11] 28))
        have hsz2 : (W.alloc (.cells #[.int .i64 o.kind, tv o.name, v2, v3, v4, v5, v6, v7, v8, v9, v10, v11] 28)).heap.size = W.heap.size + 1 := World.size_alloc _ _
        refine (thrR_any 59 #[.pointer (some ⟨w.heap.size + 1, 0, none⟩)] (fun x y u => enter_plain Try.func59 (by kernel_rfl) (by kernel_rfl) _ u)
          (fun Ks G u => sumK Ks ≤ 1 + sizeF k ∧ ∃ c : Bool, Has u (w.heap.size + 1) [.bool c] ∧ (c && stackB 0 Ks) = T0 ∧ Grows w u) (fun b => b < w.heap.size ∨ b = W.heap.size) (fun b => b = w.heap.size + 1) (W.heap.size + 1) (fun b hb => by omega) (fun b hb => by omega)
          ?_ ?_ ?_ _ (.cons o k .nil) _ (by rw [hsz2]; exact Nat.le_refl _) htop ⟨by simp [sumK, sizeF], false, hcb2, by rw [HT0.out]; simp [stackB], hg2⟩ (by simp only [sizeF]; omega)).mono ?_
        · rintro Ks G G' u u' hbu ⟨h0, c, h1, h2, h3⟩ hG hby _
          refine ⟨h0, c, h1.turned (S := fun b => W.heap.size + 1 ≤ b) (Turns.of_by hby fun g e _ => (hG g e).1) (by omega), h2, ?_⟩
          exact h3.grown hby h3.size (fun g e => by have := (hG g e).1; omega)
        · rintro Ks G u ⟨h0, c, h1, h2, h3⟩
          rw [sumK_app] at h0
          refine ⟨by omega, c, h1, ?_, h3⟩
          rw [stackB_app] at h2
          simpa [stackB, allB] using h2
        · rintro Ks o' k' r' h' ad G u hbu hG ⟨h0, c, h1, h2, h3⟩ hrec hno hlen
          rw [stackB_app] at h2
          rw [sumK_app] at h0
          simp only [stackB, allB, Nat.zero_add, Bool.and_true, sumK, sizeF] at h2 h0
          have hlk : lenF k' ≤ 1000000 := by have := len_size k'; omega
          refine (formed1_any ad Ks.length (w.heap.size + 1) c _ o' k' h' u hrec hno h1 (by omega) (by omega) hlk).mono ?_
          rintro e u' ⟨b, hb, rfl, hb', hT⟩
          have hT3 : Grows w u' := ⟨hT.os.trans h3.os, hT.tape.trans h3.tape, hT.output.trans h3.output, Nat.le_trans h3.size hT.size, fun x hx => (hT.block x (Nat.lt_of_lt_of_le hx h3.size) (by omega)).trans (h3.block x hx)⟩
          have hGG : ∀ g, G = some g → u'.heap[g]? = u.heap[g]? := fun g e => hT.block g (hG g e).2 (by have := (hG g e).1; omega)
          cases b
          · refine ⟨.nil, .inr ⟨rfl, rfl⟩, ⟨by rw [sumK_app]; simp only [sumK, sizeF]; omega, false, hb', ?_, hT3⟩, hT, hGG⟩
            rw [← h2]
            cases hcc : c
            · simp
            · rw [hcc, Bool.true_and] at hb
              rw [← hb]; simp
          · refine ⟨k', .inl ⟨rfl, rfl⟩, ⟨by rw [sumK_app]; simp only [sumK]; omega, true, hb', ?_, hT3⟩, hT, hGG⟩
            rw [← h2, stackB_app]
            have hcc : c = true ∧ chkN Ks.length o' k' = true := by simpa using hb.symm
            simp only [stackB, hcc.1, hcc.2, Bool.true_and, Nat.zero_add, Bool.and_true]
            rw [Bool.and_comm (allB Ks.length r')]
        · rintro e u ⟨rfl, G, ⟨h0, c, h1, h2, h3⟩, _⟩
          have hc0 := h1.cell (k := 0) rfl
          have h2' : c = T0 := by simpa [stackB] using h2
          subst h2'
          clear h2 htop hcb hcb2
          go_wp2
          go_ret
          exact ⟨rfl, h3⟩
      · have hg00 := HG.out
        clear HG
        simp only [Bool.and_true, Bool.and_false, Bool.true_and, Bool.false_and] at hg00
        subst hg00
        go_wp2_with fail
        obtain ⟨W, hW⟩ : ∃ W, W = ((w.alloc (.cells #[.int .i64 o.kind, tv o.name, v2, v3, v4, v5, v6, v7, v8, v9, v10, v11] 28)).alloc (.cells #[.bool true] 4)) := ⟨_, rfl⟩
        have hsz : W.heap.size = w.heap.size + 1 + 1 := by rw [hW]; simp
        have hcb := Has.new (w.alloc (.cells #[.int .i64 o.kind, tv o.name, v2, v3, v4, v5, v6, v7, v8, v9, v10, v11] 28)) 4 [.bool true]
        rw [World.size_alloc] at hcb
        change Has ((w.alloc (.cells #[.int .i64 o.kind, tv o.name, v2, v3, v4, v5, v6, v7, v8, v9, v10, v11] 28)).alloc (.cells #[.bool true] 4)) _ _ at hcb
        rw [← hW] at hcb
        have hg : Grows w W := by rw [hW]; exact Grows.trans (grows_alloc _ _) (grows_alloc _ _)
        rw [← hW, ← hsz]
        clear hW
        have htop := top_is o k [.int .i64 o.kind, tv o.name, v2, v3, v4, v5, v6, v7, v8, v9, v10, v11] W (· < w.heap.size) (fun b => b < w.heap.size ∨ b = W.heap.size) h HV.out (hlow.later hg) (fun b hb => by omega) (fun b hb => .inl hb) (.inr rfl)
        have hcb2 := hcb.later (grows_alloc W (.cells #[.int .i64 o.kind, tv o.name, v2, v3, v4, v5, v6, v7, v8, v9, v10, v11] 28))
        have hg2 := Grows.trans hg (grows_alloc W (.cells #[.int .i64 o.kind, tv o.name, v2, v3, v4, v5, v6, v7, v8, v9, v10, v11] 28))
        have hsz2 : (W.alloc (.cells #[.int .i64 o.kind, tv o.name, v2, v3, v4, v5, v6, v7, v8, v9, v10, v11] 28)).heap.size = W.heap.size + 1 := World.size_alloc _ _
        refine (thrR_any 59 #[.pointer (some ⟨w.heap.size + 1, 0, none⟩)] (fun x y u => enter_plain Try.func59 (by kernel_rfl) (by kernel_rfl) _ u)
          (fun Ks G u => sumK Ks ≤ 1 + sizeF k ∧ ∃ c : Bool, Has u (w.heap.size + 1) [.bool c] ∧ (c && stackB 0 Ks) = T0 ∧ Grows w u) (fun b => b < w.heap.size ∨ b = W.heap.size) (fun b => b = w.heap.size + 1) (W.heap.size + 1) (fun b hb => by omega) (fun b hb => by omega)
          ?_ ?_ ?_ _ (.cons o k .nil) _ (by rw [hsz2]; exact Nat.le_refl _) htop ⟨by simp [sumK, sizeF], true, hcb2, by rw [HT0.out]; simp [stackB], hg2⟩ (by simp only [sizeF]; omega)).mono ?_
        · rintro Ks G G' u u' hbu ⟨h0, c, h1, h2, h3⟩ hG hby _
          refine ⟨h0, c, h1.turned (S := fun b => W.heap.size + 1 ≤ b) (Turns.of_by hby fun g e _ => (hG g e).1) (by omega), h2, ?_⟩
          exact h3.grown hby h3.size (fun g e => by have := (hG g e).1; omega)
        · rintro Ks G u ⟨h0, c, h1, h2, h3⟩
          rw [sumK_app] at h0
          refine ⟨by omega, c, h1, ?_, h3⟩
          rw [stackB_app] at h2
          simpa [stackB, allB] using h2
        · rintro Ks o' k' r' h' ad G u hbu hG ⟨h0, c, h1, h2, h3⟩ hrec hno hlen
          rw [stackB_app] at h2
          rw [sumK_app] at h0
          simp only [stackB, allB, Nat.zero_add, Bool.and_true, sumK, sizeF] at h2 h0
          have hlk : lenF k' ≤ 1000000 := by have := len_size k'; omega
          refine (formed1_any ad Ks.length (w.heap.size + 1) c _ o' k' h' u hrec hno h1 (by omega) (by omega) hlk).mono ?_
          rintro e u' ⟨b, hb, rfl, hb', hT⟩
          have hT3 : Grows w u' := ⟨hT.os.trans h3.os, hT.tape.trans h3.tape, hT.output.trans h3.output, Nat.le_trans h3.size hT.size, fun x hx => (hT.block x (Nat.lt_of_lt_of_le hx h3.size) (by omega)).trans (h3.block x hx)⟩
          have hGG : ∀ g, G = some g → u'.heap[g]? = u.heap[g]? := fun g e => hT.block g (hG g e).2 (by have := (hG g e).1; omega)
          cases b
          · refine ⟨.nil, .inr ⟨rfl, rfl⟩, ⟨by rw [sumK_app]; simp only [sumK, sizeF]; omega, false, hb', ?_, hT3⟩, hT, hGG⟩
            rw [← h2]
            cases hcc : c
            · simp
            · rw [hcc, Bool.true_and] at hb
              rw [← hb]; simp
          · refine ⟨k', .inl ⟨rfl, rfl⟩, ⟨by rw [sumK_app]; simp only [sumK]; omega, true, hb', ?_, hT3⟩, hT, hGG⟩
            rw [← h2, stackB_app]
            have hcc : c = true ∧ chkN Ks.length o' k' = true := by simpa using hb.symm
            simp only [stackB, hcc.1, hcc.2, Bool.true_and, Nat.zero_add, Bool.and_true]
            rw [Bool.and_comm (allB Ks.length r')]
        · rintro e u ⟨rfl, G, ⟨h0, c, h1, h2, h3⟩, _⟩
          have hc0 := h1.cell (k := 0) rfl
          have h2' : c = T0 := by simpa [stackB] using h2
          subst h2'
          clear h2 htop hcb hcb2
          go_wp2
          go_ret
          exact ⟨rfl, h3⟩
  exact walk _ _ _ _ rfl (fun t => run_teq (P := Try.prog) t o.name []) (by rw [Bool.eq_iff_iff]; simp) rfl
end Go.Proofs.Ytanofmejokgijaa
