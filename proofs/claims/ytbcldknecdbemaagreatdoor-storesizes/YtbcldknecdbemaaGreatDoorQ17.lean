/-
  Contracts, joined (DkO L12D).
-/
import Derived.Test.YtbcldknecdbemaaGreatDoorQ13
import Derived.Test.YtbcldknecdbemaaGreatDoorQ16
import Derived.Test.YtbcldknecdbemaaGreatDoorQ1
import Derived.Test.YtbcldknecdbemaaGreatDoorQ14

/-
  What disk tells, as a row of one's own (of L12B).
-/
namespace Go.Proofs.YtbcldknecdbemaaGreatDoor
open Go.RowKit
set_option linter.unusedVariables false
set_option maxRecDepth 20000

theorem fresh_own {w0 w : World} {base n : Nat} {v : Value} {l : Byts} (h : w.ownsRow base 5 1 v n (l.map bv)) (hb : w0.heap.size ≤ base) : Fresh w0 w v l := by
  have hl : l.length = n := by have := h.1; simpa using this
  subst hl
  rcases h.2 with ⟨rfl, h0⟩ | ⟨g, c, cur, rfl, hg, hh, hnc, hm, hs, ht⟩
  · exact .inl ⟨rfl, by simpa using h0⟩
  · have hc : ∀ j u, (l.map bv)[j]? = some u → w.cell? ⟨g, j, none⟩ = some u := fun j u hu => by
      have hj : j < l.length := by have := (List.getElem?_eq_some_iff.1 hu).1; simpa using this
      have := (Lies.of_own h) j u hu
      obtain ⟨ad, e, _, hcl⟩ := this
      injection e with e
      rw [← e, add_plain, Nat.zero_add] at hcl
      exact hcl
    exact .inr ⟨g, c, rfl, hnc, hm, by omega, hc, fun j hj => by simp [World.frozen?, hh]⟩
theorem Fresh.set {w0 w : World} {g c : Nat} {l : Byts} (h : Fresh w0 w (.slice (some ⟨g, 0, none⟩) l.length c) l) {k : Nat} (hk : k < l.length) (z : UInt8) : Fresh w0 (w.setCell ⟨g, k, none⟩ (bv z)) (.slice (some ⟨g, 0, none⟩) l.length c) (l.set k z) := by
  rcases h with ⟨e, rfl⟩ | ⟨g', c', e, h1, h2, h3, h4, h5⟩
  · simp at hk
  · injection e with e1 _ e3
    injection e1 with e1
    injection e1 with e1
    subst e1 e3
    refine .inr ⟨g, c, by rw [List.length_set], by rw [List.length_set]; exact h1, h2, h3, fun j u hu => ?_, fun j hj => ?_⟩
    · rw [List.map_set] at hu
      have hj : j < l.length := by have := (List.getElem?_eq_some_iff.1 hu).1; simpa using this
      have hc := h4 j _ (List.getElem?_eq_getElem (by simpa using hj))
      by_cases hjk : k = j
      · subst hjk
        rw [List.getElem?_set_self (by simpa using hk)] at hu
        injection hu with hu
        subst hu
        exact World.cell?_setCell_same w _ _ hc
      · rw [List.getElem?_set_ne hjk, List.getElem?_eq_getElem (by simpa using hj)] at hu
        injection hu with hu
        subst hu
        rw [World.cell?_setCell_other w _ _ _ (by intro e; injection e with _ e; exact hjk e)]
        exact hc
    · rw [World.frozen?_setCell]
      exact h5 j (by simpa using hj)
theorem Fresh.at_ {w0 w : World} {v : Value} {l : Byts} (h : Fresh w0 w v l) {k : Nat} (hk : k < l.length) : ∃ g c x, v = .slice (some ⟨g, 0, none⟩) l.length c ∧ w0.heap.size ≤ g ∧ g < w.heap.size ∧ l[k]? = some x ∧ w.cell? ⟨g, k, none⟩ = some (bv x) ∧ w.frozen? ⟨g, k, none⟩ = false := by
  rcases h with ⟨rfl, rfl⟩ | ⟨g, c, rfl, h1, h2, h3, h4, h5⟩
  · simp at hk
  · have hx := h4 k (bv l[k]) (by rw [List.getElem?_map, List.getElem?_eq_getElem hk]; rfl)
    exact ⟨g, c, l[k], rfl, h3, World.block_lt_of_cell? w _ hx, List.getElem?_eq_getElem hk, hx, h5 k hk⟩
theorem Fresh.form {w0 w : World} {v : Value} {l : Byts} (h : Fresh w0 w v l) : ∃ A c, v = .slice A l.length c := by
  rcases h with ⟨rfl, rfl⟩ | ⟨g, c, rfl, _⟩
  · exact ⟨none, 0, rfl⟩
  · exact ⟨_, _, rfl⟩
set_option maxHeartbeats 400000 in
theorem short_any (l : List UInt8) (m : Nat) (w : World) (hm : m ≤ 1000000) :
    Calls Tryz.prog 51 #[tv l, .int .i64 (m : Int)] w fun e w' => e = .returned (tv (l.take m)) ∧ Grows w w' := by
  have hsz := size_mk l
  by_cases h : m < l.length
  · have h' : (m : Int) < (l.length : Int) := by omega
    have ct : ∀ u, (Instr.slice 9 (tv l) none (some (.int .i64 (m : Int))) none).run Tryz.prog u = .ok (tv (l.take m)) u := fun u => by
      rw [run_slice_string_to_if u 9 _ .i64 (m : Int) Tryz.underlying9, if_pos ⟨by omega, by rw [size_mk]; omega⟩, tcut]
      rfl
    generalize l.take m = R at *
    go_enter Tryz.func51, Tryz.ntmps51
    go_wp2
    go_ret
    exact ⟨rfl, Grows.refl _⟩
  · have h' : ¬ (m : Int) < (l.length : Int) := by omega
    rw [List.take_of_length_le (by omega)]
    go_enter Tryz.func51, Tryz.ntmps51
    go_wp2
    go_ret
    exact ⟨rfl, Grows.refl _⟩

end Go.Proofs.YtbcldknecdbemaaGreatDoor

/-
  The walk of DiskNames.
-/
namespace Go.Proofs.YtbcldknecdbemaaGreatDoor
open Go.RowKit
set_option linter.unusedVariables false
set_option maxRecDepth 20000

/-- The disk behind j writes of one byte. -/
structure Nm (j : Nat) (D : Dk) : Prop where
  pow : D.power = -1
  room : D.room = 100
  weight : D.weight ≤ j
  waits : D.waits.length ≤ j
  seen : D.seen.length ≤ j
theorem nm_zero : Nm 0 (newD 100) := ⟨rfl, rfl, by simp [newD, Dk.weight, fUsed, dataSum], by simp [newD], by simp [newD]⟩
theorem put_len (S : Fls) (p b : Byts) : (fPut S p b).length ≤ S.length + 1 := by
  have h1 := (fPut_perm S (p := p) (b := b)).length_eq
  have h2 := (fDel_sub S p).length_le
  rw [h1]; simp; omega
theorem nm_write {j : Nat} {D : Dk} (h : Nm j D) (p : Byts) : Nm (j + 1) (writeD D p [49]).1 := by
  have hw := weight_write D p [49]
  have ha := waits_write D p [49]
  have h1 := h.weight
  have h2 := h.waits
  have h3 := h.seen
  simp only [List.length_cons, List.length_nil] at hw
  refine ⟨?_, by rw [room_write]; exact h.room, by omega, by omega, ?_⟩
  · unfold writeD
    split
    · exact h.pow
    · split
      · exact h.pow
      · split
        · exact h.pow
        · show (if 0 < D.power then D.power - 1 else D.power) = _
          rw [h.pow]; rfl
  · unfold writeD
    split
    · show D.seen.length ≤ _; omega
    · split
      · show D.seen.length ≤ _; omega
      · split
        · show D.seen.length ≤ _; omega
        · show (fPut D.seen p [49]).length ≤ _
          have := put_len D.seen p [49]
          omega

/-- Both disks at hand: the program's, the reference's in its box, four texts. -/
structure StN (w : World) (a m gt B : Nat) (ts : List Value) (sv lv wv : Value) (D : Dk) (X : Nat → Prop) : Prop where
  dsk : Dsk w a m X D
  ref : RDk w (fun k => X k ∧ k ≠ B) sv lv wv D
  xs : ∀ k, X k → k < w.heap.size
  xb : X B
  box : Has w B [rv D.room, sv, lv, wv, rv D.power]
  txt : Has w gt ts
theorem StN.later {w w' : World} {a m gt B : Nat} {ts : List Value} {sv lv wv : Value} {D : Dk} {X : Nat → Prop} (h : StN w a m gt B ts sv lv wv D X) (hg : Grows w w') : StN w' a m gt B ts sv lv wv D X :=
  ⟨h.dsk.later hg, h.ref.later hg, fun k hk => Nat.lt_of_lt_of_le (h.xs k hk) hg.size, h.xb, h.box.later hg, h.txt.later hg⟩
theorem op_storeT {P : Program} {w : World} {op : Oper} {a : Act} {Q : Exit → Act → World → Prop} {K : Act → World → Prop} (ty : TypeId) (x y : Operand) (ho : op.op = .store ty x y)
    (b : Nat) (vs vs' : List Value) (n : Nat) (hx : a.eval x = .pointer (some ⟨b, 0, none⟩)) (hy : a.eval y = .agg vs'.toArray) (hb : Has w b vs) (hl : vs.length = n) (hl' : vs'.length = n) (hi : (P.info? ty).map (·.size) = some n)
    (h1 : ∀ v ∈ vs', v.oneCell' = true) (h : ∀ w', Has w' b vs' → Turns (fun k => k = b) w w' → K (a.put op.dst undef) w') : Oper.wp P op a w K Q := by
  have hz : vs'.toArray.size = n := by simp [hl']
  refine wp_store_mid ty x y ho b 0 vs'.toArray hx hy (by rw [hz, ← hl]; exact hb.there) (by rw [hz]; exact hi) (all_oneCell_toArray h1) ?_
  exact h _ (hb.put_ (by rw [hl, hl'])) (turns_cells b _ 0 w)
def Xn (w w' : World) (X : Nat → Prop) (k : Nat) : Prop := (X k ∨ w.heap.size ≤ k) ∧ k < w'.heap.size
/-- The reference has gone on. -/
theorem StN.gone {w w' : World} {a m gt B : Nat} {ts : List Value} {sv lv wv sv' lv' wv' : Value} {D D' : Dk} {X : Nat → Prop} (h : StN w a m gt B ts sv lv wv D X) (ht : Turns (fun k => k = B) w w') (hr : RDk w' (fun k => (X k ∨ w.heap.size ≤ k) ∧ k ≠ B) sv' lv' wv' D') :
    Dsk w' a m (Xn w w' X) D ∧ RDk w' (fun k => Xn w w' X k ∧ k ≠ B) sv' lv' wv' D' ∧ Xn w w' X B :=
  have hB : Xn w w' X B := ⟨.inl h.xb, Nat.lt_of_lt_of_le (h.xs B h.xb) ht.size⟩
  ⟨(h.dsk.more (X' := Xn w w' X) (fun k hk => hk.1)).turned ht (fun k e hk => hk.2 (by rw [e]; exact hB)), hr.cut.mono (fun k hk => ⟨⟨hk.1.1, hk.2⟩, hk.1.2⟩), hB⟩
theorem preF_snoc {S : Fls} {k : Nat} {x : Byts × Byts} (h : S[k]? = some x) (q : Byts) : preF (S.take (k + 1)) q = if prefB x.1 q = true then preF (S.take k) q ++ [x.1] else preF (S.take k) q := by
  rw [take_at h]
  unfold preF
  rw [List.filter_append, List.map_append]
  by_cases hb : prefB x.1 q = true
  · rw [if_pos hb]; simp [hb]
  · rw [if_neg hb]
    have hb' : prefB x.1 q = false := by simpa using hb
    simp [hb']
theorem tv_ones (l : List Byts) : ∀ u ∈ l.map tv, u.oneCell' = true := fun u hu => by
  obtain ⟨x, _, rfl⟩ := List.mem_map.1 hu
  rfl

end Go.Proofs.YtbcldknecdbemaaGreatDoor
