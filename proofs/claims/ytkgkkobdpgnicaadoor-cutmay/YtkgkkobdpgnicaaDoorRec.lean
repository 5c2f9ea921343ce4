/-
  Rows of records (elements of several cells), of no program: where each one lies, its load, append to an owned one.
-/
import Derived.Test.YtkgkkobdpgnicaaDoorCut
import Derived.Test.YtkgkkobdpgnicaaDoorCel
namespace Go.Proofs.YtkgkkobdpgnicaaDoor
open Go.RowKit
set_option linter.unusedVariables false

theorem flat_len {k : Nat} : ∀ {rs : List (List Value)}, (∀ r ∈ rs, r.length = k) → rs.flatten.length = rs.length * k
  | [], _ => by simp
  | r :: rs, h => by
    have h1 := h r (by simp)
    have ih := flat_len (rs := rs) fun x hx => h x (by simp [hx])
    simp [ih, h1, Nat.add_mul]; omega
theorem flat_at {k : Nat} : ∀ {rs : List (List Value)} {i j : Nat} {r : List Value} {u : Value}, (∀ r ∈ rs, r.length = k) → rs[i]? = some r → r[j]? = some u → rs.flatten[i * k + j]? = some u
  | [], i, j, r, u, _, hi, _ => by simp at hi
  | x :: rs, 0, j, r, u, h, hi, hj => by
    simp at hi
    subst hi
    have h1 := h x (by simp)
    have : j < x.length := (List.getElem?_eq_some_iff.1 hj).1
    rw [List.flatten_cons, Nat.zero_mul, Nat.zero_add, List.getElem?_append_left this]; exact hj
  | x :: rs, i + 1, j, r, u, h, hi, hj => by
    have h1 := h x (by simp)
    have ih := flat_at (rs := rs) (i := i) (j := j) (fun y hy => h y (by simp [hy])) (by simpa using hi) hj
    rw [List.flatten_cons, List.getElem?_append_right (by rw [h1, Nat.add_mul]; omega)]
    rw [show (i + 1) * k + j - x.length = i * k + j by rw [h1, Nat.add_mul]; omega]
    exact ih

/-- Records of k cells lie one behind the other. -/
structure Recs (w : World) (A : Option Addr) (k : Nat) (rs : List (List Value)) : Prop where
  each : ∀ r ∈ rs, r.length = k
  lies : Lies w w.heap.size A rs.flatten
section
variable {w w' : World} {A : Option Addr} {k : Nat} {rs : List (List Value)}
theorem Recs.later (h : Recs w A k rs) (hg : Grows w w') : Recs w' A k rs := ⟨h.each, h.lies.later hg⟩
theorem Recs.nil : Recs w A k [] := ⟨by simp, Lies.empty⟩
/-- The cells of one of them. -/
theorem Recs.at_ (h : Recs w A k rs) (hk : 0 < k) {i : Nat} {r : List Value} (hi : rs[i]? = some r) : ∃ ad, A = some ad ∧ ad.block < w.heap.size ∧ ∀ j u, r[j]? = some u → w.cell? (ad.add (i * k + j)) = some u := by
  have hl := h.each r (List.mem_of_getElem? hi)
  obtain ⟨u0, hu0⟩ : ∃ u, r[0]? = some u := ⟨_, List.getElem?_eq_getElem (by omega)⟩
  obtain ⟨ad, rfl, hb, _⟩ := h.lies _ _ (flat_at h.each hi hu0)
  exact ⟨ad, rfl, hb, fun j u hu => by obtain ⟨ad', e, _, hc⟩ := h.lies _ _ (flat_at h.each hi hu); injection e with e; rw [e]; exact hc⟩
theorem Recs.of_own {base : Nat} {e : TypeId} {n c : Nat} (hr : ∀ r ∈ rs, r.length = k) (hk : 0 < k) (h : w.ownsRow base e k (.slice A n c) n rs.flatten) : Recs w A k rs ∧ rs.length = n := by
  have hn : rs.length = n := by
    have := h.1
    rw [flat_len hr] at this
    exact Nat.eq_of_mul_eq_mul_right hk this
  refine ⟨⟨hr, fun j u hu => ?_⟩, hn⟩
  obtain ⟨h1, h2⟩ := h
  rcases h2 with ⟨_, h0⟩ | ⟨g, cap, cur, hv, _, hh, hnc, _, hsz, htk⟩
  · subst h0
    rw [List.length_eq_zero_iff] at hn
    subst hn
    simp at hu
  · injection hv with hA
    subst hA
    have hg : g < w.heap.size := (Array.getElem?_eq_some_iff.1 hh).1
    refine ⟨⟨g, 0, none⟩, rfl, hg, ?_⟩
    rw [add_plain, cell_of_row w g _ cur e (0, 0) hh]
    have : (cur.toList.take (n * k))[j]? = some u := by rw [htk]; exact hu
    rw [List.getElem?_take] at this
    split at this
    · simpa using this
    · cases this
end

section
variable {P : Program}
/-- A record is loaded, wherever it lies. -/
theorem load_any (w : World) (a : Addr) (ty : TypeId) (cs : List Value) (d : TypeDesc) (hc : ∀ j v, cs[j]? = some v → w.cell? (a.add j) = some v) (hu : P.underlying ty = some d) (hd : d.isRow = true) (hi : (P.info? ty).map (·.size) = some cs.length) :
    (Instr.loadAt ty (.pointer (some a))).run P w = .ok (.agg cs.toArray) w := by
  have hl : (loadCells a cs.length).run P w = .ok cs.toArray w := run_loadCells_list (P := P) w a cs hc
  cases hq : P.info? ty with
  | none => simp [hq] at hi
  | some i =>
    have hs : i.size = cs.length := by simpa [hq] using hi
    have hagg : (isAgg ty).run P w = .ok true w := by
      unfold isAgg
      rw [Sem.run_bind, run_underlying hu w]
      cases d <;> simp_all
    simp [Instr.loadAt, Instr.sureAddr, loadVar, Sem.run_bind, hagg, sizeOf, typeInfo, hq, hs, hl]
/-- append(owned records, source...): the source may be nil, empty, or lie anywhere. -/
theorem run_append_recs (w : World) (base : Nat) (t ty e : TypeId) (i : TypeInfo) (z : Value) (k bytes : Nat) (hk : 0 < k) (ht : P.underlying t = some (.slice e)) (hi : P.info? e = some i) (hz : i.zero = some z)
    (hsize : i.size = k) (hby : i.bytes = bytes) (hzs : z.cells.size = k)
    (v : Value) (n : Nat) (xs : List Value) (hown : w.ownsRow base e k v n xs)
    (B : Nat) (A : Option Addr) (m c : Nat) (news : List Value) (hl : news.length = m * k) (hr : Lies w B A news) (h1 : ∀ u ∈ news, u.oneCell' = true)
    (h63 : n + m ≤ maxLen) (hbytes : (n + m) * bytes ≤ 140737488355328) (hbase : base ≤ w.heap.size) :
    ∃ v' w', (Builtin.append_ #[t, t] ty #[v, .slice A m c]).run P w = .ok v' w' ∧ w'.ownsRow base e k v' (n + m) (xs ++ news) ∧ w.grownBy w' v.ownBlock ∧
      (v'.ownBlock = v.ownBlock ∨ v'.ownBlock = some w.heap.size) := by
  cases A with
  | none =>
    have hn := hr.none_empty
    subst hn
    have hm : m = 0 := by
      rcases Nat.eq_zero_or_pos m with h | h
      · exact h
      · have := Nat.mul_pos h hk; simp at hl; omega
    subst hm
    refine ⟨v, w, ?_, by simpa using hown, World.grownBy.refl w _, .inl rfl⟩
    rcases hown.2 with ⟨rfl, rfl⟩ | ⟨g, cap, cur, rfl, _, _, hnc, _⟩
    · simp [Builtin.append_, run_underlying ht, sizeOf, typeInfo, hi, Builtin.lenOf, Builtin.firstCells]
    · simp [Builtin.append_, run_underlying ht, sizeOf, typeInfo, hi, Builtin.lenOf, Builtin.firstCells, hnc, storeCells]
  | some ad =>
    obtain ⟨v', w', hrun, h2, h3, _, h5⟩ := run_append_own_at (P := P) w base t ty e i z k bytes ht hi hz hsize hby hzs hk v n xs hown ad m c news hl hr.cells h1 h63 hbytes hbase
    exact ⟨v', w', hrun, h2, h3, h5⟩
theorem wpList_append_recs {w : World} {ops : Array Oper} {rest : List Oper} {o : Oper} {a : Act} {Q : Exit → Act → World → Prop} (hgd : o.guard = none) (s x : Operand) (t : TypeId)
    (ho : o.op = .call { callee := .builtin .append, args := #[s, x], argTypes := #[t, t] })
    (base : Nat) (e : TypeId) (i : TypeInfo) (z : Value) (k bytes : Nat) (hk : 0 < k) (ht : P.underlying t = some (.slice e)) (hi : P.info? e = some i) (hz : i.zero = some z)
    (hsize : i.size = k) (hby : i.bytes = bytes) (hzs : z.cells.size = k)
    (v : Value) (n : Nat) (xs : List Value) (hs : a.eval s = v) (hown : w.ownsRow base e k v n xs)
    (B : Nat) (A : Option Addr) (m c : Nat) (news : List Value) (hx : a.eval x = .slice A m c) (hl : news.length = m * k) (hr : Lies w B A news) (h1 : ∀ u ∈ news, u.oneCell' = true)
    (h63 : n + m ≤ maxLen) (hbytes : (n + m) * bytes ≤ 140737488355328) (hbase : base ≤ w.heap.size)
    (h : ∀ v' w', w'.ownsRow base e k v' (n + m) (xs ++ news) → w.grownBy w' v.ownBlock → (v'.ownBlock = v.ownBlock ∨ v'.ownBlock = some w.heap.size) → wpList P ops Q rest (a.put o.dst v') w') : wpList P ops Q (o :: rest) a w := by
  refine wpList_plain hgd fun K hK => ?_
  obtain ⟨v', w', hrun, h2, h3, h4⟩ := run_append_recs (P := P) w base t o.type e i z k bytes hk ht hi hz hsize hby hzs v n xs hown B A m c news hl hr h1 h63 hbytes hbase
  unfold Oper.wp execOp
  simp only [ho, resolve, invoke, builtin, Sem.run_bind, Sem.run_pure, Result.andThen_ok, List.map_toArray, List.map_cons, List.map_nil, hs, hx, hrun]
  exact hK _ _ (h v' w' h2 h3 h4)
end
end Go.Proofs.YtkgkkobdpgnicaaDoor
