/-
  tree.through, whatever function is handed to it: an invariant J over how many rounds may still come, the lists that it is within, and the block of its own list.
-/
import Derived.Test.YtanofmejokgijaaRows
import Derived.Test.YtanofmejokgijaaTur
import Derived.Outline
import Derived.Lib.Hide
import Derived.BigQuiet
import Derived.Deep.LoopGhost
import Derived.WalkSmall
import Derived.WalkLawsBesides
namespace Go.Proofs.Ytanofmejokgijaa
open Go.RowKit
set_option linter.unusedVariables false

/-- A list that it is within: where, how many, how many at most. -/
structure Fr where
  A : Option Addr
  n : Nat
  c : Nat
abbrev Fr.v (f : Fr) : Value := .slice f.A f.n f.c
/-- Without its first one. -/
def Fr.tl (sz : Nat) (f : Fr) : Fr := ⟨cutA f.A f.c 1 sz, f.n - 1, f.c - 1⟩
theorem own_same3 {w w' : World} {base : Nat} {e : TypeId} {size : Nat} {v : Value} {n : Nat} {xs : List Value} (h : w.ownsRow base e size v n xs) (hs : ∀ g, v.ownBlock = some g → w'.heap[g]? = w.heap[g]?) : w'.ownsRow base e size v n xs := by
  obtain ⟨h1, h2⟩ := h
  refine ⟨h1, ?_⟩
  rcases h2 with h2 | ⟨g, cap, cur, rfl, h3, h4, h5⟩
  · exact .inl h2
  · exact .inr ⟨g, cap, cur, rfl, h3, (hs g rfl).trans h4, h5⟩
theorem frs_one (fs : List Fr) : ∀ u ∈ fs.map Fr.v, u.oneCell' = true := fun u hu => by
  obtain ⟨b, _, rfl⟩ := List.mem_map.1 hu
  rfl

theorem thrN_info : (Try.prog.info? 26).map (fun i => (i.zero, i.size, i.bytes)) = some (some (.slice none 0 0), 1, 24) := by kernel_rfl
theorem thrN_size : (Try.prog.info? 28).map (·.size) = some 12 := by kernel_rfl

set_option maxRecDepth 20000 in
set_option maxHeartbeats 2000000 in
theorem thrN_any (q : FuncId) (cap : Array Value) (hq : ∀ (x y : Value) (w : World), (callFunc q (#[x, y] ++ cap)).run Try.prog w = .ok (.enter q (#[x, y] ++ cap)) w)
    (J : Nat → List Fr → Option Nat → World → Prop) (base : Nat)
    (hJ : ∀ m fs G G' w w', base ≤ w.heap.size → J m fs G w → (∀ g, G = some g → base ≤ g ∧ g < w.heap.size) → w.grownBy w' G → (G' = G ∨ G' = some w.heap.size) → J m fs G' w')
    (hlen : ∀ m fs G w, J m fs G w → fs.length ≤ 1000000 ∧ (∀ f ∈ fs, f.n ≤ f.c ∧ (0 < f.n → ∃ ad, f.A = some ad)))
    (hpop : ∀ m fs f G w, J m (fs ++ [f]) G w → f.n = 0 → ∃ m', m' < m ∧ J m' fs G w)
    (hsee : ∀ m fs f ad G w, base ≤ w.heap.size → (∀ g, G = some g → base ≤ g ∧ g < w.heap.size) → J m (fs ++ [f]) G w → f.A = some ad → 0 < f.n → Calls Try.prog q (#[.pointer (some ad), .int .i64 fs.length] ++ cap) w fun e w' =>
      ∃ (b : Fr) (m' : Nat), e = .returned b.v ∧ m' < m ∧ J m' (fs ++ [f.tl 12, b]) G w' ∧ w.heap.size ≤ w'.heap.size ∧ ∀ g, G = some g → w'.heap[g]? = w.heap[g]?)
    (m : Nat) (f : Fr) (w : World) (hb : base ≤ w.heap.size) (h0 : J m [f] none w) :
    Calls Try.prog 35 #[f.v, .func (.func q) #[] cap] w fun e w' => e = .returned (.tuple #[]) ∧ ∃ m G, J m [] G w' ∧ w.heap.size ≤ w'.heap.size := by
  obtain ⟨i0, hi0, hz0, hz1, hz2⟩ := info_parts thrN_info
  have hnew := Has.new w 26 [f.v]
  have hown0 : (w.alloc (.cells #[f.v] 26)).ownsRow base 26 1 (.slice (some ⟨w.heap.size, 0, none⟩) 1 1) 1 ([f].map Fr.v) :=
    ⟨rfl, .inr ⟨w.heap.size, 1, #[f.v], rfl, hb, heap_alloc_new w _, Nat.le_refl _, by unfold maxLen; omega, rfl, rfl⟩⟩
  have hJ0 := hJ m [f] none (some w.heap.size) w (w.alloc (.cells #[f.v] 26)) hb h0 (fun g hg => by cases hg) (World.grownBy_alloc w _ none) (.inr rfl)
  clear h0 hnew
  go_enter Try.func35, Try.ntmps35
  go_wp2
  go_loopg [4] m (fun k v wr => ∃ (fs : List Fr) (A : Option Addr) (c : Nat), v = .slice A fs.length c ∧ wr.ownsRow base 26 1 v fs.length (fs.map Fr.v) ∧ base ≤ wr.heap.size ∧ w.heap.size ≤ wr.heap.size ∧ J k fs v.ownBlock wr)
  case atStart => exact ⟨[f], _, 1, rfl, hown0, by rw [World.size_alloc]; omega, by rw [World.size_alloc]; omega, hJ0⟩
  case round =>
    obtain ⟨fs, A, c, rfl, hown, hbw, hww, hj⟩ := hrel
    have hlf := (hlen _ _ _ _ hj).1
    rcases List.eq_nil_or_concat fs with rfl | ⟨fs, f', rfl⟩
    · go_wp2
      refine bodyPost_end (results_none rfl _ _ _) rfl ?_
      exact ⟨rfl, _, _, hj, hww⟩
    · obtain ⟨hfc, hfA⟩ := (hlen _ _ _ _ hj).2 f' (by simp)
      rw [List.concat_eq_append] at hlf hown hj ⊢
      rw [List.length_append, List.length_singleton] at hlf hown ⊢
      have hown' := hown
      obtain ⟨g, cc, e, hcc, hcm, hgb, hh⟩ := own_has hown (by omega)
      injection e with e1 _ e3
      subst e1 e3
      have hcell : wr.cell? ⟨g, fs.length, none⟩ = some (.slice f'.A f'.n f'.c) := hh.cell (k := fs.length) (by simp)
      have hfree : wr.frozen? ⟨g, fs.length, none⟩ = false := hh.free fs.length
      have hlen1 : ((fs.length + 1 : Nat) : Int) - 1 = (fs.length : Int) := by omega
      by_cases hz : f'.n = 0
      · obtain ⟨m', hm', hj'⟩ := hpop _ _ _ _ _ hj hz
        have hcut := Lib.hid (run_cutK_to (P := Try.prog) (t := 92) (e := 26) Try.underlying92 (sz := 1) (by rw [hi0]; simp [hz1]) (some ⟨g, 0, none⟩) (fs.length + 1) c fs.length .i64 (by omega))
        have hot := own_take hown (k := fs.length) (by omega)
        rw [Nat.mul_one, List.map_append, List.take_left' (by simp)] at hot
        have hn0 : (((f'.n : Nat) : Int) == 0) = true := by rw [hz]; rfl
        clear hz hfA hfc hown hown' hh
        go_wp2_with (refine wpList_cut rfl 92 (.tmp 22) none (some (.tmp 23)) none rfl _ (hcut.out _) ?_)
        go_roundg m'
        case rel => exact ⟨fs, _, c, rfl, hot, hbw, hww, hj'⟩
        case measure => exact hm'
      · obtain ⟨ad, hA⟩ := hfA (by omega)
        obtain ⟨fA, fn, fc⟩ := f'
        simp only at hA hfc hz hcell
        subst hA
        have hn0 : (((fn : Nat) : Int) == 0) = false := by simp; omega
        obtain ⟨t, ht⟩ : ∃ t, t = Fr.tl 12 ⟨some ad, fn, fc⟩ := ⟨_, rfl⟩
        have hst : (wr.setCell ⟨g, fs.length, none⟩ t.v).ownsRow base 26 1 (.slice (some ⟨g, 0, none⟩) (fs.length + 1) c) (fs.length + 1) ((fs ++ [t]).map Fr.v) := by
          have := own_put (k := fs.length) (x := t.v) hown
          rwa [List.map_append, List.map_singleton, List.set_append_right _ _ (by simp), List.length_map, Nat.sub_self, List.set_cons_zero, ← List.map_singleton, ← List.map_append] at this
        have hby : wr.grownBy (wr.setCell ⟨g, fs.length, none⟩ t.v) (some g) := ⟨rfl, rfl, rfl, by simp [World.setCell], fun k hk hne => Below.heap_setCell wr _ _ k fun e => hne (by rw [e])⟩
        have hj2 := hJ _ _ _ (some g) _ _ hbw hj (fun g' e => by injection e with e; subst e; exact ⟨hgb, hh.lt⟩) hby (.inl rfl)
        have hs2 : (wr.setCell ⟨g, fs.length, none⟩ t.v).heap.size = wr.heap.size := by simp [World.setCell]
        have hgl := hh.lt
        have S := hsee gk fs ⟨some ad, fn, fc⟩ ad (some g) _ (by rw [hs2]; exact hbw) (fun g' e => by injection e with e; subst e; exact ⟨hgb, by rw [hs2]; exact hgl⟩) hj2 rfl (by simp only; omega)
        rw [← ht] at S
        have HS2 := Lib.hid hs2
        have SS := Lib.hid S
        clear hs2 hfA hown hown' hj hh S hj2
        by_cases hc1 : fc = 1
        · have : fn = 1 := by omega
          subst this
          subst hc1
          have ht' : t = ⟨some ad, 0, 0⟩ := by rw [ht]; simp [Fr.tl, cutA]
          subst ht'
          clear ht
          go_wp2
          refine SS.out.mono ?_
          rintro e w3 ⟨b, m', rfl, hm', hj3, hs3, hg3⟩
          have hown3 := own_same3 hst (w' := w3) (fun g' e => by injection e with e; subst e; exact hg3 _ rfl)
          have hb3 : base ≤ w3.heap.size := by have := HS2.out; omega
          have hww3 : w.heap.size ≤ w3.heap.size := by have := HS2.out; omega
          have hgl3 : g < w3.heap.size := by have := HS2.out; omega
          have hj4 := hJ _ _ _ (some g) _ (w3.alloc (.cells #[b.v] 26)) hb3 hj3 (fun g' e => by injection e with e; subst e; exact ⟨hgb, hgl3⟩) (World.grownBy_alloc w3 _ _) (.inl rfl)
          have hnew := Lies.new w3 26 [b.v]
          have hown4 := hown3.alloc (.cells #[b.v] 26)
          have hsz4 : (w3.alloc (.cells #[b.v] 26)).heap.size = w3.heap.size + 1 := World.size_alloc _ _
          have HZ := Lib.hid hsz4
          have HG3 := Lib.hid hg3
          clear hst hcell hfree hg3 hj3 hown3 SS hsz4
          go_wp2_with (at_builtin; refine wpList_append_src _ rfl (.tmp 30) (.tmp 36) _ rfl base 26 i0 _ 24 Try.underlying92 hi0 hz0 hz1 hz2 rfl _ (fs.length + 1) _ rfl hown4 _ _ 1 1 [b.v] rfl rfl hnew (by simp [Value.oneCell']) (by unfold maxLen; omega) (by omega) (by rw [HZ.out]; omega) ?_; intro v' w' hown' hg' hat')
          rw [show [b.v] = [b].map Fr.v from rfl, ← List.map_append] at hown'
          have hj5 := hJ _ _ _ v'.ownBlock _ w' (by rw [HZ.out]; omega) hj4 (fun g' e => by injection e with e; subst e; exact ⟨hgb, by rw [HZ.out]; omega⟩) hg' hat'
          have hsz5 := hg'.size
          have hz6 := HZ.out
          rw [List.append_assoc, List.singleton_append] at hown'
          obtain ⟨A5, c5, rfl, hc5⟩ := own_form hown'
          go_roundg m'
          case rel => exact ⟨fs ++ [_, b], A5, c5, by rw [List.length_append]; rfl, by rw [List.length_append]; exact hown', by omega, by omega, hj5⟩
          case measure => exact hm'
        · have hc1' : ¬ fc = 1 := hc1
          have ht' : t = ⟨some ⟨ad.block, ad.off + 12, none⟩, fn - 1, fc - 1⟩ := by rw [ht]; simp [Fr.tl, cutA, hc1, Addr.add]
          subst ht'
          clear ht
          go_wp2
          refine SS.out.mono ?_
          rintro e w3 ⟨b, m', rfl, hm', hj3, hs3, hg3⟩
          have hown3 := own_same3 hst (w' := w3) (fun g' e => by injection e with e; subst e; exact hg3 _ rfl)
          have hb3 : base ≤ w3.heap.size := by have := HS2.out; omega
          have hww3 : w.heap.size ≤ w3.heap.size := by have := HS2.out; omega
          have hgl3 : g < w3.heap.size := by have := HS2.out; omega
          have hj4 := hJ _ _ _ (some g) _ (w3.alloc (.cells #[b.v] 26)) hb3 hj3 (fun g' e => by injection e with e; subst e; exact ⟨hgb, hgl3⟩) (World.grownBy_alloc w3 _ _) (.inl rfl)
          have hnew := Lies.new w3 26 [b.v]
          have hown4 := hown3.alloc (.cells #[b.v] 26)
          have hsz4 : (w3.alloc (.cells #[b.v] 26)).heap.size = w3.heap.size + 1 := World.size_alloc _ _
          have HZ := Lib.hid hsz4
          have HG3 := Lib.hid hg3
          clear hst hcell hfree hg3 hj3 hown3 SS hsz4
          go_wp2_with (at_builtin; refine wpList_append_src _ rfl (.tmp 30) (.tmp 36) _ rfl base 26 i0 _ 24 Try.underlying92 hi0 hz0 hz1 hz2 rfl _ (fs.length + 1) _ rfl hown4 _ _ 1 1 [b.v] rfl rfl hnew (by simp [Value.oneCell']) (by unfold maxLen; omega) (by omega) (by rw [HZ.out]; omega) ?_; intro v' w' hown' hg' hat')
          rw [show [b.v] = [b].map Fr.v from rfl, ← List.map_append] at hown'
          have hj5 := hJ _ _ _ v'.ownBlock _ w' (by rw [HZ.out]; omega) hj4 (fun g' e => by injection e with e; subst e; exact ⟨hgb, by rw [HZ.out]; omega⟩) hg' hat'
          have hsz5 := hg'.size
          have hz6 := HZ.out
          rw [List.append_assoc, List.singleton_append] at hown'
          obtain ⟨A5, c5, rfl, hc5⟩ := own_form hown'
          go_roundg m'
          case rel => exact ⟨fs ++ [_, b], A5, c5, by rw [List.length_append]; rfl, by rw [List.length_append]; exact hown', by omega, by omega, hj5⟩
          case measure => exact hm'

theorem thrP_info : (Try.prog.info? 82).map (fun i => (i.zero, i.size, i.bytes)) = some (some (.slice none 0 0), 1, 24) := by kernel_rfl
theorem thrP_size : (Try.prog.info? 81).map (·.size) = some 2 := by kernel_rfl

set_option maxRecDepth 20000 in
set_option maxHeartbeats 2000000 in
theorem thrP_any (q : FuncId) (cap : Array Value) (hq : ∀ (x y : Value) (w : World), (callFunc q (#[x, y] ++ cap)).run Try.prog w = .ok (.enter q (#[x, y] ++ cap)) w)
    (J : Nat → List Fr → Option Nat → World → Prop) (base : Nat)
    (hJ : ∀ m fs G G' w w', base ≤ w.heap.size → J m fs G w → (∀ g, G = some g → base ≤ g ∧ g < w.heap.size) → w.grownBy w' G → (G' = G ∨ G' = some w.heap.size) → J m fs G' w')
    (hlen : ∀ m fs G w, J m fs G w → fs.length ≤ 1000000 ∧ (∀ f ∈ fs, f.n ≤ f.c ∧ (0 < f.n → ∃ ad, f.A = some ad)))
    (hpop : ∀ m fs f G w, J m (fs ++ [f]) G w → f.n = 0 → ∃ m', m' < m ∧ J m' fs G w)
    (hsee : ∀ m fs f ad G w, base ≤ w.heap.size → (∀ g, G = some g → base ≤ g ∧ g < w.heap.size) → J m (fs ++ [f]) G w → f.A = some ad → 0 < f.n → Calls Try.prog q (#[.pointer (some ad), .int .i64 fs.length] ++ cap) w fun e w' =>
      ∃ (b : Fr) (m' : Nat), e = .returned b.v ∧ m' < m ∧ J m' (fs ++ [f.tl 2, b]) G w' ∧ w.heap.size ≤ w'.heap.size ∧ ∀ g, G = some g → w'.heap[g]? = w.heap[g]?)
    (m : Nat) (f : Fr) (w : World) (hb : base ≤ w.heap.size) (h0 : J m [f] none w) :
    Calls Try.prog 51 #[f.v, .func (.func q) #[] cap] w fun e w' => e = .returned (.tuple #[]) ∧ ∃ m G, J m [] G w' ∧ w.heap.size ≤ w'.heap.size := by
  obtain ⟨i0, hi0, hz0, hz1, hz2⟩ := info_parts thrP_info
  have hnew := Has.new w 82 [f.v]
  have hown0 : (w.alloc (.cells #[f.v] 82)).ownsRow base 82 1 (.slice (some ⟨w.heap.size, 0, none⟩) 1 1) 1 ([f].map Fr.v) :=
    ⟨rfl, .inr ⟨w.heap.size, 1, #[f.v], rfl, hb, heap_alloc_new w _, Nat.le_refl _, by unfold maxLen; omega, rfl, rfl⟩⟩
  have hJ0 := hJ m [f] none (some w.heap.size) w (w.alloc (.cells #[f.v] 82)) hb h0 (fun g hg => by cases hg) (World.grownBy_alloc w _ none) (.inr rfl)
  clear h0 hnew
  go_enter Try.func51, Try.ntmps51
  go_wp2
  go_loopg [4] m (fun k v wr => ∃ (fs : List Fr) (A : Option Addr) (c : Nat), v = .slice A fs.length c ∧ wr.ownsRow base 82 1 v fs.length (fs.map Fr.v) ∧ base ≤ wr.heap.size ∧ w.heap.size ≤ wr.heap.size ∧ J k fs v.ownBlock wr)
  case atStart => exact ⟨[f], _, 1, rfl, hown0, by rw [World.size_alloc]; omega, by rw [World.size_alloc]; omega, hJ0⟩
  case round =>
    obtain ⟨fs, A, c, rfl, hown, hbw, hww, hj⟩ := hrel
    have hlf := (hlen _ _ _ _ hj).1
    rcases List.eq_nil_or_concat fs with rfl | ⟨fs, f', rfl⟩
    · go_wp2
      refine bodyPost_end (results_none rfl _ _ _) rfl ?_
      exact ⟨rfl, _, _, hj, hww⟩
    · obtain ⟨hfc, hfA⟩ := (hlen _ _ _ _ hj).2 f' (by simp)
      rw [List.concat_eq_append] at hlf hown hj ⊢
      rw [List.length_append, List.length_singleton] at hlf hown ⊢
      have hown' := hown
      obtain ⟨g, cc, e, hcc, hcm, hgb, hh⟩ := own_has hown (by omega)
      injection e with e1 _ e3
      subst e1 e3
      have hcell : wr.cell? ⟨g, fs.length, none⟩ = some (.slice f'.A f'.n f'.c) := hh.cell (k := fs.length) (by simp)
      have hfree : wr.frozen? ⟨g, fs.length, none⟩ = false := hh.free fs.length
      have hlen1 : ((fs.length + 1 : Nat) : Int) - 1 = (fs.length : Int) := by omega
      by_cases hz : f'.n = 0
      · obtain ⟨m', hm', hj'⟩ := hpop _ _ _ _ _ hj hz
        have hcut := Lib.hid (run_cutK_to (P := Try.prog) (t := 105) (e := 82) Try.underlying105 (sz := 1) (by rw [hi0]; simp [hz1]) (some ⟨g, 0, none⟩) (fs.length + 1) c fs.length .i64 (by omega))
        have hot := own_take hown (k := fs.length) (by omega)
        rw [Nat.mul_one, List.map_append, List.take_left' (by simp)] at hot
        have hn0 : (((f'.n : Nat) : Int) == 0) = true := by rw [hz]; rfl
        clear hz hfA hfc hown hown' hh
        go_wp2_with (refine wpList_cut rfl 105 (.tmp 22) none (some (.tmp 23)) none rfl _ (hcut.out _) ?_)
        go_roundg m'
        case rel => exact ⟨fs, _, c, rfl, hot, hbw, hww, hj'⟩
        case measure => exact hm'
      · obtain ⟨ad, hA⟩ := hfA (by omega)
        obtain ⟨fA, fn, fc⟩ := f'
        simp only at hA hfc hz hcell
        subst hA
        have hn0 : (((fn : Nat) : Int) == 0) = false := by simp; omega
        obtain ⟨t, ht⟩ : ∃ t, t = Fr.tl 2 ⟨some ad, fn, fc⟩ := ⟨_, rfl⟩
        have hst : (wr.setCell ⟨g, fs.length, none⟩ t.v).ownsRow base 82 1 (.slice (some ⟨g, 0, none⟩) (fs.length + 1) c) (fs.length + 1) ((fs ++ [t]).map Fr.v) := by
          have := own_put (k := fs.length) (x := t.v) hown
          rwa [List.map_append, List.map_singleton, List.set_append_right _ _ (by simp), List.length_map, Nat.sub_self, List.set_cons_zero, ← List.map_singleton, ← List.map_append] at this
        have hby : wr.grownBy (wr.setCell ⟨g, fs.length, none⟩ t.v) (some g) := ⟨rfl, rfl, rfl, by simp [World.setCell], fun k hk hne => Below.heap_setCell wr _ _ k fun e => hne (by rw [e])⟩
        have hj2 := hJ _ _ _ (some g) _ _ hbw hj (fun g' e => by injection e with e; subst e; exact ⟨hgb, hh.lt⟩) hby (.inl rfl)
        have hs2 : (wr.setCell ⟨g, fs.length, none⟩ t.v).heap.size = wr.heap.size := by simp [World.setCell]
        have hgl := hh.lt
        have S := hsee gk fs ⟨some ad, fn, fc⟩ ad (some g) _ (by rw [hs2]; exact hbw) (fun g' e => by injection e with e; subst e; exact ⟨hgb, by rw [hs2]; exact hgl⟩) hj2 rfl (by simp only; omega)
        rw [← ht] at S
        have HS2 := Lib.hid hs2
        have SS := Lib.hid S
        clear hs2 hfA hown hown' hj hh S hj2
        by_cases hc1 : fc = 1
        · have : fn = 1 := by omega
          subst this
          subst hc1
          have ht' : t = ⟨some ad, 0, 0⟩ := by rw [ht]; simp [Fr.tl, cutA]
          subst ht'
          clear ht
          go_wp2
          refine SS.out.mono ?_
          rintro e w3 ⟨b, m', rfl, hm', hj3, hs3, hg3⟩
          have hown3 := own_same3 hst (w' := w3) (fun g' e => by injection e with e; subst e; exact hg3 _ rfl)
          have hb3 : base ≤ w3.heap.size := by have := HS2.out; omega
          have hww3 : w.heap.size ≤ w3.heap.size := by have := HS2.out; omega
          have hgl3 : g < w3.heap.size := by have := HS2.out; omega
          have hj4 := hJ _ _ _ (some g) _ (w3.alloc (.cells #[b.v] 82)) hb3 hj3 (fun g' e => by injection e with e; subst e; exact ⟨hgb, hgl3⟩) (World.grownBy_alloc w3 _ _) (.inl rfl)
          have hnew := Lies.new w3 82 [b.v]
          have hown4 := hown3.alloc (.cells #[b.v] 82)
          have hsz4 : (w3.alloc (.cells #[b.v] 82)).heap.size = w3.heap.size + 1 := World.size_alloc _ _
          have HZ := Lib.hid hsz4
          have HG3 := Lib.hid hg3
          clear hst hcell hfree hg3 hj3 hown3 SS hsz4
          go_wp2_with (at_builtin; refine wpList_append_src _ rfl (.tmp 30) (.tmp 36) _ rfl base 82 i0 _ 24 Try.underlying105 hi0 hz0 hz1 hz2 rfl _ (fs.length + 1) _ rfl hown4 _ _ 1 1 [b.v] rfl rfl hnew (by simp [Value.oneCell']) (by unfold maxLen; omega) (by omega) (by rw [HZ.out]; omega) ?_; intro v' w' hown' hg' hat')
          rw [show [b.v] = [b].map Fr.v from rfl, ← List.map_append] at hown'
          have hj5 := hJ _ _ _ v'.ownBlock _ w' (by rw [HZ.out]; omega) hj4 (fun g' e => by injection e with e; subst e; exact ⟨hgb, by rw [HZ.out]; omega⟩) hg' hat'
          have hsz5 := hg'.size
          have hz6 := HZ.out
          rw [List.append_assoc, List.singleton_append] at hown'
          obtain ⟨A5, c5, rfl, hc5⟩ := own_form hown'
          go_roundg m'
          case rel => exact ⟨fs ++ [_, b], A5, c5, by rw [List.length_append]; rfl, by rw [List.length_append]; exact hown', by omega, by omega, hj5⟩
          case measure => exact hm'
        · have hc1' : ¬ fc = 1 := hc1
          have ht' : t = ⟨some ⟨ad.block, ad.off + 2, none⟩, fn - 1, fc - 1⟩ := by rw [ht]; simp [Fr.tl, cutA, hc1, Addr.add]
          subst ht'
          clear ht
          go_wp2
          refine SS.out.mono ?_
          rintro e w3 ⟨b, m', rfl, hm', hj3, hs3, hg3⟩
          have hown3 := own_same3 hst (w' := w3) (fun g' e => by injection e with e; subst e; exact hg3 _ rfl)
          have hb3 : base ≤ w3.heap.size := by have := HS2.out; omega
          have hww3 : w.heap.size ≤ w3.heap.size := by have := HS2.out; omega
          have hgl3 : g < w3.heap.size := by have := HS2.out; omega
          have hj4 := hJ _ _ _ (some g) _ (w3.alloc (.cells #[b.v] 82)) hb3 hj3 (fun g' e => by injection e with e; subst e; exact ⟨hgb, hgl3⟩) (World.grownBy_alloc w3 _ _) (.inl rfl)
          have hnew := Lies.new w3 82 [b.v]
          have hown4 := hown3.alloc (.cells #[b.v] 82)
          have hsz4 : (w3.alloc (.cells #[b.v] 82)).heap.size = w3.heap.size + 1 := World.size_alloc _ _
          have HZ := Lib.hid hsz4
          have HG3 := Lib.hid hg3
          clear hst hcell hfree hg3 hj3 hown3 SS hsz4
          go_wp2_with (at_builtin; refine wpList_append_src _ rfl (.tmp 30) (.tmp 36) _ rfl base 82 i0 _ 24 Try.underlying105 hi0 hz0 hz1 hz2 rfl _ (fs.length + 1) _ rfl hown4 _ _ 1 1 [b.v] rfl rfl hnew (by simp [Value.oneCell']) (by unfold maxLen; omega) (by omega) (by rw [HZ.out]; omega) ?_; intro v' w' hown' hg' hat')
          rw [show [b.v] = [b].map Fr.v from rfl, ← List.map_append] at hown'
          have hj5 := hJ _ _ _ v'.ownBlock _ w' (by rw [HZ.out]; omega) hj4 (fun g' e => by injection e with e; subst e; exact ⟨hgb, by rw [HZ.out]; omega⟩) hg' hat'
          have hsz5 := hg'.size
          have hz6 := HZ.out
          rw [List.append_assoc, List.singleton_append] at hown'
          obtain ⟨A5, c5, rfl, hc5⟩ := own_form hown'
          go_roundg m'
          case rel => exact ⟨fs ++ [_, b], A5, c5, by rw [List.length_append]; rfl, by rw [List.length_append]; exact hown', by omega, by omega, hj5⟩
          case measure => exact hm'
end Go.Proofs.Ytanofmejokgijaa
