/-
  Contracts, joined (Slr).
-/
import Derived.Test.YtbcldknecdbemaaGreatDoorQ1
import Derived.Great.BuildSlice
import Derived.Test.YtbcldknecdbemaaGreatDoorQ17

/-
  A slice literal of records of any size (of no program).
-/
namespace Go.Proofs.YtbcldknecdbemaaGreatDoor
open Go.RowKit
set_option linter.unusedVariables false
set_option maxRecDepth 20000

theorem set_rowR (pre : List Value) : ∀ (mid post r : List Value) (k : Nat) (done : List Value), done.length = k → r.length = mid.length →
    (r.zipIdx k).foldl (fun (cs : Array Value) (cj : Value × Nat) => cs.setIfInBounds (pre.length + cj.2) cj.1) (pre ++ (done ++ (mid ++ post))).toArray = (pre ++ (done ++ (r ++ post))).toArray
  | [], post, [], k, done, hk, hl => rfl
  | [], post, x :: r, k, done, hk, hl => by simp at hl
  | m :: mid, post, [], k, done, hk, hl => by simp at hl
  | m :: mid, post, x :: r, k, done, hk, hl => by
    rw [List.zipIdx_cons, List.foldl_cons]
    have h1 : (pre ++ (done ++ (m :: mid ++ post))).toArray.setIfInBounds (pre.length + k) x = (pre ++ ((done ++ [x]) ++ (mid ++ post))).toArray := by
      rw [List.setIfInBounds_toArray]
      congr 1
      rw [List.set_append_right _ _ (by omega), Nat.add_sub_cancel_left, List.set_append_right _ _ (by omega), hk, Nat.sub_self]
      simp
    have h2 := set_rowR pre mid post r (k + 1) (done ++ [x]) (by simp [hk]) (by simpa using hl)
    simp only at h1 h2 ⊢
    rw [h1, h2]
    simp
theorem fill_rowsR (k : Nat) : ∀ (rs : List (List Value)) (j : Nat) (pre post : List Value), (∀ r ∈ rs, r.length = k) → pre.length = j * k → post.length = rs.length * k →
    Instr.fill (fun i => some (i * k, k)) (pre ++ post).toArray ((rs.zipIdx j).map fun p => (p.2, Value.agg p.1.toArray)) = some (pre ++ rs.flatten).toArray
  | [], j, pre, post, _, _, hl => by
    have : post = [] := List.eq_nil_of_length_eq_zero (by simpa using hl)
    subst this
    simp [Instr.fill]
  | r :: rs, j, pre, post, hr, hp, hl => by
    have h1 := hr r (by simp)
    have hl2 : post.length = k + rs.length * k := by rw [hl, List.length_cons, Nat.add_mul, Nat.one_mul, Nat.add_comm]
    have hs := set_rowR pre (post.take k) (post.drop k) r 0 [] rfl (by rw [List.length_take, h1]; omega)
    rw [List.nil_append, List.take_append_drop, List.nil_append] at hs
    have ih := fill_rowsR k rs (j + 1) (pre ++ r) (post.drop k) (fun y hy => hr y (by simp [hy])) (by rw [List.length_append, hp, h1, Nat.add_mul, Nat.one_mul]) (by rw [List.length_drop]; omega)
    rw [List.zipIdx_cons, List.map_cons]
    unfold Instr.fill
    have hc : ¬ ((Value.agg r.toArray).cells.size ≠ k ∨ j * k + (Value.agg r.toArray).cells.size > (pre ++ post).toArray.size) := by
      have e1 : (Value.agg r.toArray).cells.size = k := by show r.toArray.size = k; simp [h1]
      rw [e1]
      simp only [List.size_toArray, List.length_append, hp, hl2]
      omega
    have hf : Array.foldl (fun (cs : Array Value) (x : Value × Nat) => match x with | (c, i) => cs.setIfInBounds (j * k + i) c) (pre ++ post).toArray (Value.agg r.toArray).cells.zipIdx = (pre ++ r ++ post.drop k).toArray := by
      rw [← hp, List.append_assoc, ← hs]
      show Array.foldl _ _ r.toArray.zipIdx = _
      rw [← Array.foldl_toList, Array.toList_zipIdx]
    dsimp only
    rw [if_neg (by rw [Bool.or_eq_true, decide_eq_true_eq, decide_eq_true_eq]; exact hc), hf]
    simpa using ih
/-- A slice literal of records. -/
theorem slice_recsR {P : Program} (u : World) (t e : TypeId) (k : Nat) (hk : 0 < k) (i : TypeInfo) (z : Value) (hu : P.underlying t = some (.slice e)) (hi : P.info? e = some i) (hz : i.zero = some z) (hs : i.size = k) (rs : List (List Value)) (hr : ∀ r ∈ rs, r.length = k)
    (hn : 0 < rs.length) (hm : rs.length * k ≤ 16777216) :
    (Instr.buildSlice t rs.length (rs.zipIdx.map fun p => (p.2, Value.agg p.1.toArray)).toArray).run P u = .ok (.slice (some ⟨u.heap.size, 0, none⟩) rs.length rs.length) (u.alloc (.cells rs.flatten.toArray e)) := by
  have hpos := Nat.mul_pos hn hk
  refine run_buildSlice u t e rs.length _ _ i z hu hi hz (by rw [hs]; omega) (by rw [hs]; omega) ?_
  rw [hs]
  have hz0 : ∀ (a : Array Value), a.size = rs.length * k → Instr.fill (fun i => some (i * k, k)) a (rs.zipIdx.map fun p => (p.2, Value.agg p.1.toArray)) = some rs.flatten.toArray := fun a ha => by
    have := fill_rowsR k rs 0 [] a.toList hr (by simp) (by simpa using ha)
    simpa using this
  exact hz0 _ (by simp)
section
variable {P : Program} {Q : Exit → Act → World → Prop}
theorem ord_bsliceR {l : List Oper} {E : Act → World → Prop} {w : World} {i : Nat} {s : List (Nat × Bool)} {a : Act} (o : Oper) (ho : l[i]? = some o)
    (hw : Region.wanted o (yielded l.toArray a.tmps) = true) (t : TypeId) (len : Nat) (parts : Array (Nat × Operand)) (hop : o.op = .buildSlice t len parts) (ps : Array (Nat × Value)) (cs : List Value) (e : TypeId)
    (hy : ∀ u, (Instr.buildSlice t len ps).run P u = .ok (.slice (some ⟨u.heap.size, 0, none⟩) len len) (u.alloc (.cells cs.toArray e))) (hp : (parts.map fun (i, x) => (i, a.eval x)) = ps)
    (h : ∀ u, Grows w u → wpOrd P l.toArray Q E s (a.put o.dst (.slice (some ⟨u.heap.size, 0, none⟩) len len)) (u.alloc (.cells cs.toArray e))) : wpOrd P l.toArray Q E ((i, false) :: s) a w :=
  ord_move o ho hw (fun u hu K hK => by
    unfold Oper.wp execOp
    simp only [hop, hp, Sem.run_bind, hy u, Result.andThen_ok, Sem.run_pure]
    exact hK.out _ _ ((Grows.refl u).alloc (Nat.le_refl _) _) (h u hu))
variable {ops : Array Oper}
theorem wpList_bsliceR {w : World} {rest : List Oper} {o : Oper} {a : Act} (hgd : o.guard = none) (t : TypeId) (len : Nat) (parts : Array (Nat × Operand)) (hop : o.op = .buildSlice t len parts) (ps : Array (Nat × Value)) (cs : List Value) (e : TypeId)
    (hy : ∀ u, (Instr.buildSlice t len ps).run P u = .ok (.slice (some ⟨u.heap.size, 0, none⟩) len len) (u.alloc (.cells cs.toArray e))) (hp : (parts.map fun (i, x) => (i, a.eval x)) = ps)
    (h : wpList P ops Q rest (a.put o.dst (.slice (some ⟨w.heap.size, 0, none⟩) len len)) (w.alloc (.cells cs.toArray e))) : wpList P ops Q (o :: rest) a w := by
  refine wpList_plain hgd fun K hK => ?_
  unfold Oper.wp execOp
  simp only [hop, hp, Sem.run_bind, hy w, Result.andThen_ok, Sem.run_pure]
  exact hK _ _ h
end
end Go.Proofs.YtbcldknecdbemaaGreatDoor
