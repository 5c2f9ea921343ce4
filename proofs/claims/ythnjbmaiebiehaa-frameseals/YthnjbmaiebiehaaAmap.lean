/-
  Maps whose keys are arrays of four bytes (of no program): what is looked up, stored, deleted, key by key.
-/
import Derived.Test.YthnjbmaiebiehaaArr
import Derived.Test.YthnjbmaiebiehaaCel
import Derived.MapKept
import Derived.DeepKeys3
import Derived.Maps.Range
namespace Go.Proofs.Ythnjbmaiebiehaa
open Go.RowKit
set_option linter.unusedVariables false
set_option linter.unusedSectionVars false

/-- A key, its value, its stamp. -/
abbrev Ent := List UInt8 × Value × Nat
def ent (p : Ent) : MapEntry := { key := dv p.1, val := p.2.1, born := p.2.2 }
def fndFrom (k : List UInt8) : List Ent → Nat → Option (Nat × Value)
  | [], _ => none
  | p :: r, i => if k == p.1 then some (i, p.2.1) else fndFrom k r (i + 1)
structure Fine (l : List Ent) (clock : Nat) : Prop where
  four : ∀ p ∈ l, p.1.length = 4
  keys : (l.map (·.1)).Nodup
  stamps : (l.map (·.2.2)).Nodup
  past : ∀ p ∈ l, p.2.2 < clock
/-- The value at a key. -/
def look (l : List Ent) (k : List UInt8) : Option Value := (l.find? (fun p => k == p.1)).map (·.2.1)

theorem fnd_spec (k : List UInt8) : ∀ (l : List Ent) (i : Nat), (fndFrom k l i = none ∧ look l k = none ∧ ∀ p ∈ l, p.1 ≠ k) ∨ ∃ j p, fndFrom k l i = some (i + j, p.2.1) ∧ l[j]? = some p ∧ p.1 = k ∧ look l k = some p.2.1
  | [], i => .inl ⟨rfl, rfl, fun _ h => by simp at h⟩
  | p :: r, i => by
    by_cases h : k = p.1
    · refine .inr ⟨0, p, ?_, rfl, h.symm, ?_⟩
      · simp [fndFrom, h]
      · simp [look, h]
    · have hb : (k == p.1) = false := by simpa using h
      have e1 : fndFrom k (p :: r) i = fndFrom k r (i + 1) := by simp [fndFrom, hb]
      have e2 : look (p :: r) k = look r k := by simp [look, hb]
      rw [e1, e2]
      rcases fnd_spec k r (i + 1) with ⟨h1, h2, h3⟩ | ⟨j, q, h1, h2, h3, h4⟩
      · exact .inl ⟨h1, h2, fun x hx => by
          rcases List.mem_cons.1 hx with rfl | hx
          · exact fun e => h e.symm
          · exact h3 x hx⟩
      · exact .inr ⟨j + 1, q, by rw [h1, show i + 1 + j = i + (j + 1) by omega], h2, h3, h4⟩

section
variable {P : Program} {T K E U : TypeId} (hT : P.underlying T = some (.map K E)) (hK : P.underlying K = some (.array 4 U)) (hU : P.underlying U = some (.int .u8)) (hcU : P.cellsOf U = 1) (w : World)
include hK hU hcU

theorem equal_key (la lb : List UInt8) (ha : la.length = 4) (hb : lb.length = 4) : (Op.equal K (dv la) (dv lb)).run P w = .ok (la == lb) w := by
  obtain ⟨i, hi⟩ := info_of_underlying hU
  have h := run_equalIn_array (P := P) w 9999 (t := K) (la.map bv).toArray (lb.map bv).toArray hK hi
  rw [hcU, run_items_bytes w 9998 hU la lb (List.range 4) (fun j hj => by have := List.mem_range.1 hj; omega), all_eq la lb 4 ha hb] at h
  simp [Op.equal, Op.maxDepth, h]

theorem find_key (k : List UInt8) (hk : k.length = 4) : ∀ (l : List Ent) (i : Nat), (∀ p ∈ l, p.1.length = 4) → (Instr.findAsking K (dv k) (l.map ent) i).run P w = .ok (fndFrom k l i) w
  | [], i, _ => by simp [Instr.findAsking, fndFrom]
  | p :: r, i, h => by
    have ih := find_key k hk r (i + 1) (fun q hq => h q (by simp [hq]))
    have he := equal_key hK hU hcU w k p.1 hk (h p (by simp))
    simp only [List.map_cons, Instr.findAsking, Sem.run_bind, ent, he, Result.andThen_ok, fndFrom]
    split <;> simp_all

theorem run_find (k : List UInt8) (hk : k.length = 4) (l : List Ent) (h : ∀ p ∈ l, p.1.length = 4) : (Instr.findKey K (dv k) (l.map ent)).run P w = .ok (fndFrom k l 0) w := by
  rw [run_findKey_eq w (by simp [hK])]
  exact find_key hK hU hcU w k hk l 0 h

theorem run_check (em : Bool) (k : List UInt8) (hk : k.length = 4) : (Instr.checkKey em 10000 K (dv k)).run P w = .ok () w := by
  obtain ⟨i, hi⟩ := info_of_underlying hU
  have hsz : (sizeOf U).run P w = .ok 1 w := by
    have := hcU
    simp [Program.cellsOf, hi] at this
    simp [sizeOf, typeInfo, hi, this]
  have hp : ∀ j, j < 4 → ∃ x : UInt8, (part U (k.map bv).toArray j).run P w = .ok (bv x) w := fun j hj => ⟨_, run_part_byte w hU k j (by omega)⟩
  have hc : ∀ x : UInt8, (Instr.checkKey em 9999 U (bv x)).run P w = .ok () w := fun x => by
    show (Instr.checkKey em (9998 + 1) U (bv x)).run P w = _
    rw [Instr.checkKey]
    simp only [Sem.run_bind, run_underlying hU, Result.andThen_ok, Sem.run_pure]
  obtain ⟨x0, h0⟩ := hp 0 (by omega)
  obtain ⟨x1, h1⟩ := hp 1 (by omega)
  obtain ⟨x2, h2⟩ := hp 2 (by omega)
  obtain ⟨x3, h3⟩ := hp 3 (by omega)
  show (Instr.checkKey em (9999 + 1) K (dv k)).run P w = _
  rw [Instr.checkKey]
  simp only [Sem.run_bind, run_underlying hK, Result.andThen_ok, dv]
  simp only [Std.Legacy.Range.forIn_eq_forIn_range', Std.Legacy.Range.size, Nat.sub_zero, Nat.add_one_sub_one, Nat.div_one]
  simp [List.range', List.forIn_cons, hsz, h0, h1, h2, h3, hc]
end

theorem sameBits_dv (n : Nat) (k : List UInt8) : Instr.sameBits (n + 1) (dv k) (dv k) = true := by
  rw [Instr.sameBits]
  simp only [beq_self_eq_true, Bool.true_and, List.all_eq_true]
  intro x hx
  obtain ⟨a, b⟩ := x
  have : a = b ∧ a ∈ k.map bv := by
    clear n
    generalize k.map bv = m at hx ⊢
    induction m with
    | nil => simp at hx
    | cons c r ih =>
      simp only [List.zip_cons_cons, List.mem_cons, Prod.mk.injEq] at hx
      rcases hx with ⟨rfl, rfl⟩ | hx
      · exact ⟨rfl, by simp⟩
      · exact ⟨(ih hx).1, by simp [(ih hx).2]⟩
  obtain ⟨rfl, hm⟩ := this
  obtain ⟨y, _, rfl⟩ := List.mem_map.1 hm
  cases n <;> simp [Instr.sameBits]

def upd (f : List UInt8 → Option Value) (k : List UInt8) (v : Option Value) : List UInt8 → Option Value := fun k' => if k' = k then v else f k'

section
variable {k k' : List UInt8} {v : Value} {s : Nat} {p : Ent}
theorem look_cons (p : Ent) (l : List Ent) (k : List UInt8) : look (p :: l) k = if k = p.1 then some p.2.1 else look l k := by
  by_cases h : k = p.1
  · simp [look, h]
  · have hb : (k == p.1) = false := by simpa using h
    simp [look, hb, h]
theorem look_none : ∀ {l : List Ent}, k ∉ l.map (·.1) → look l k = none
  | [], _ => rfl
  | q :: r, h => by
    simp only [List.map_cons, List.mem_cons, not_or] at h
    rw [look_cons, if_neg h.1, look_none h.2]
theorem look_set : ∀ {l : List Ent} {i : Nat}, l[i]? = some p → p.1 = k → (l.map (·.1)).Nodup → look (l.set i (k, v, s)) k' = if k' = k then some v else look l k'
  | [], i, h, _, _ => by simp at h
  | q :: r, 0, h, hp, hn => by
    simp at h
    subst h
    rw [List.set_cons_zero, look_cons, look_cons, hp]
    split <;> rfl
  | q :: r, i + 1, h, hp, hn => by
    simp only [List.getElem?_cons_succ] at h
    simp only [List.map_cons, List.nodup_cons] at hn
    have hq : q.1 ≠ k := fun e => hn.1 (by rw [e, ← hp]; exact List.mem_map_of_mem (List.mem_of_getElem? h))
    rw [List.set_cons_succ, look_cons, look_cons, look_set h hp hn.2]
    by_cases h1 : k' = k
    · subst h1; rw [if_pos rfl, if_pos rfl, if_neg (fun e => hq e.symm)]
    · rw [if_neg h1, if_neg h1]
theorem look_erase : ∀ {l : List Ent} {i : Nat}, l[i]? = some p → p.1 = k → (l.map (·.1)).Nodup → look (l.eraseIdx i) k' = if k' = k then none else look l k'
  | [], i, h, _, _ => by simp at h
  | q :: r, 0, h, hp, hn => by
    simp at h
    subst h
    simp only [List.map_cons, List.nodup_cons] at hn
    rw [List.eraseIdx_cons_zero, look_cons, hp]
    by_cases h1 : k' = k
    · subst h1; rw [if_pos rfl, look_none (by rw [← hp]; exact hn.1)]
    · rw [if_neg h1, if_neg h1]
  | q :: r, i + 1, h, hp, hn => by
    simp only [List.getElem?_cons_succ] at h
    simp only [List.map_cons, List.nodup_cons] at hn
    have hq : q.1 ≠ k := fun e => hn.1 (by rw [e, ← hp]; exact List.mem_map_of_mem (List.mem_of_getElem? h))
    rw [List.eraseIdx_cons_succ, look_cons, look_cons, look_erase h hp hn.2]
    by_cases h1 : k' = k
    · subst h1; rw [if_pos rfl, if_pos rfl, if_neg (fun e => hq e.symm)]
    · rw [if_neg h1, if_neg h1]
theorem look_push : ∀ {l : List Ent}, k ∉ l.map (·.1) → look (l ++ [(k, v, s)]) k' = if k' = k then some v else look l k'
  | [], _ => by rw [List.nil_append, look_cons]
  | q :: r, h => by
    simp only [List.map_cons, List.mem_cons, not_or] at h
    rw [List.cons_append, look_cons, look_cons, look_push h.2]
    by_cases h1 : k' = k
    · subst h1; rw [if_pos rfl, if_pos rfl, if_neg h.1]
    · rw [if_neg h1, if_neg h1]

theorem erase_map {α β : Type} (g : α → β) : ∀ (l : List α) (j : Nat), (l.map g).eraseIdx j = (l.eraseIdx j).map g
  | [], _ => by simp
  | a :: r, 0 => by simp
  | a :: r, j + 1 => by simp [erase_map g r j]
theorem set_map {α β : Type} (g : α → β) (l : List α) (i : Nat) (q : α) (h : (l[i]?).map g = some (g q)) : (l.set i q).map g = l.map g := by
  apply List.ext_getElem?
  intro j
  rw [List.getElem?_map, List.getElem?_map, List.getElem?_set]
  by_cases hj : i = j
  · subst hj
    have hi : i < l.length := by
      rcases Nat.lt_or_ge i l.length with h1 | h1
      · exact h1
      · rw [List.getElem?_eq_none h1] at h; cases h
    rw [if_pos rfl, if_pos hi, h]; rfl
  · rw [if_neg hj]
theorem Fine.set {l : List Ent} {clock i : Nat} (F : Fine l clock) (h : l[i]? = some p) (v : Value) : Fine (l.set i (p.1, v, p.2.2)) clock := by
  refine ⟨fun q hq => ?_, ?_, ?_, fun q hq => ?_⟩
  · rcases List.mem_or_eq_of_mem_set hq with h1 | rfl
    · exact F.four q h1
    · exact F.four p (List.mem_of_getElem? h)
  · rw [set_map _ _ _ _ (by rw [h]; rfl)]; exact F.keys
  · rw [set_map _ _ _ _ (by rw [h]; rfl)]; exact F.stamps
  · rcases List.mem_or_eq_of_mem_set hq with h1 | rfl
    · exact F.past q h1
    · exact F.past p (List.mem_of_getElem? h)
theorem Fine.erase {l : List Ent} {clock : Nat} (F : Fine l clock) (i : Nat) : Fine (l.eraseIdx i) clock := by
  have hs : (l.eraseIdx i).Sublist l := List.eraseIdx_sublist l i
  exact ⟨fun q hq => F.four q (hs.mem hq), F.keys.sublist (hs.map _), F.stamps.sublist (hs.map _), fun q hq => F.past q (hs.mem hq)⟩
theorem Fine.push {l : List Ent} {clock : Nat} (F : Fine l clock) (hk : k.length = 4) (hn : k ∉ l.map (·.1)) (v : Value) : Fine (l ++ [(k, v, clock)]) (clock + 1) := by
  refine ⟨fun q hq => ?_, ?_, ?_, fun q hq => ?_⟩
  · rcases List.mem_append.1 hq with h1 | h1
    · exact F.four q h1
    · simp at h1; subst h1; exact hk
  · rw [List.map_append, List.nodup_append]
    exact ⟨F.keys, by simp, fun a ha b hb => by simp at hb; subst hb; exact fun e => hn (e ▸ ha)⟩
  · rw [List.map_append, List.nodup_append]
    refine ⟨F.stamps, by simp, fun a ha b hb => ?_⟩
    simp at hb
    obtain ⟨q, hq, rfl⟩ := List.mem_map.1 ha
    have := F.past q hq
    omega
  · rcases List.mem_append.1 hq with h1 | h1
    · have := F.past q h1; omega
    · simp at h1; subst h1; exact Nat.lt_succ_self _
theorem stamp_idx : ∀ {l : List Ent} {i : Nat}, l[i]? = some p → (l.map (·.2.2)).Nodup → (l.map ent).findIdx? (fun e => (e.born : Int) == (p.2.2 : Int)) = some i
  | [], i, h, _ => by simp at h
  | q :: r, 0, h, hn => by
    simp at h
    subst h
    simp [List.findIdx?_cons, ent]
  | q :: r, i + 1, h, hn => by
    simp only [List.getElem?_cons_succ] at h
    simp only [List.map_cons, List.nodup_cons] at hn
    have hq : ¬ ((q.2.2 : Int) = (p.2.2 : Int)) := fun e => hn.1 (by rw [show q.2.2 = p.2.2 by omega]; exact List.mem_map_of_mem (List.mem_of_getElem? h))
    have ih := stamp_idx h hn.2
    rw [List.map_cons, List.findIdx?_cons, ih]
    simp [ent, hq]
theorem modify_ent {l : List Ent} {i : Nat} (h : l[i]? = some p) (g : MapEntry → MapEntry) (q : Ent) (hg : g (ent p) = ent q) : (l.map ent).toArray.modify i g = ((l.set i q).map ent).toArray := by
  apply Array.ext'
  rw [Array.toList_modify]
  apply List.ext_getElem?
  intro j
  simp only [List.getElem?_modify, List.getElem?_map, List.getElem?_set]
  by_cases hj : i = j
  · subst hj
    have hi : i < l.length := by
      rcases Nat.lt_or_ge i l.length with h1 | h1
      · exact h1
      · rw [List.getElem?_eq_none h1] at h; cases h
    have hx : l[i] = p := by rw [List.getElem?_eq_getElem hi] at h; injection h
    simp [hi, hx, hg]
  · simp [hj]
end

/-- Block b is such a map, and f tells its values. -/
def MapAt (w : World) (b : Nat) (f : List UInt8 → Option Value) : Prop := ∃ l clock, w.heap[b]? = some (.map (l.map ent).toArray clock) ∧ Fine l clock ∧ ∀ k, look l k = f k
theorem MapAt.lt {w : World} {b : Nat} {f : List UInt8 → Option Value} (h : MapAt w b f) : b < w.heap.size := by
  obtain ⟨l, clock, hb, _⟩ := h
  exact (Array.getElem?_eq_some_iff.1 hb).1
theorem MapAt.kept {w w' : World} {b : Nat} {f : List UInt8 → Option Value} {row : Option Nat} (h : MapAt w b f) (hg : w.grownBy w' row) (hne : some b ≠ row) : MapAt w' b f := by
  have hlt := h.lt
  obtain ⟨l, clock, hb, F⟩ := h
  exact ⟨l, clock, (hg.block b hlt hne).trans hb, F⟩
theorem MapAt.new (w : World) : MapAt (w.alloc (.map #[] 0)) w.heap.size (fun _ => none) :=
  ⟨[], 0, heap_alloc_new w _, ⟨fun _ h => by simp at h, by simp, by simp, fun _ h => by simp at h⟩, fun _ => rfl⟩
/-- The block is set anew. -/
def reblock (w : World) (b : Nat) (o : Obj) : World := { w with heap := w.heap.setIfInBounds b o }
theorem reblock_at {w : World} {b : Nat} (h : b < w.heap.size) (o : Obj) : (reblock w b o).heap[b]? = some o := by
  simp [reblock, h]
theorem reblock_grown (w : World) (b : Nat) (o : Obj) : w.grownBy (reblock w b o) (some b) :=
  ⟨rfl, rfl, rfl, by simp [reblock], fun k hk hne => by
    have : b ≠ k := fun e => hne (by rw [e])
    simp [reblock, Array.getElem?_setIfInBounds_ne this]⟩
theorem reblock_size (w : World) (b : Nat) (o : Obj) : (reblock w b o).heap.size = w.heap.size := by simp [reblock]

section
variable {P : Program} {T K E U : TypeId} (hT : P.underlying T = some (.map K E)) (hK : P.underlying K = some (.array 4 U)) (hU : P.underlying U = some (.int .u8)) (hcU : P.cellsOf U = 1)
  (hE : ∀ w : World, (zeroValue E).run P w = .ok (.slice none 0 0) w) {w : World} {b : Nat} {f : List UInt8 → Option Value} {k : List UInt8} (hk : k.length = 4)
include hT hK hU hcU hE hk

/-- m[k] -/
theorem MapAt.get (h : MapAt w b f) : (Instr.lookup T (.map (some b)) (dv k) false).run P w = .ok ((f k).getD (.slice none 0 0)) w := by
  obtain ⟨l, clock, hb, F, hf⟩ := h
  have hg := MapKept.run_getObj_map (P := P) hb
  have hc := fun em => run_check hK hU hcU w em k hk
  have hs := run_find hK hU hcU w k hk l F.four
  unfold Instr.lookup
  simp only [Sem.run_bind, run_underlying hT, hg, Result.andThen_ok, Sem.run_pure, hc, hs]
  rcases fnd_spec k l 0 with ⟨h1, h2, _⟩ | ⟨j, p, h1, _, _, h4⟩
  · rw [hf] at h2
    simp [h1, h2, hE w]
  · rw [hf] at h4
    simp [h1, h4]
/-- m[k] = v, where there is an entry. -/
theorem MapAt.put (h : MapAt w b f) (hin : f k ≠ none) (v : Value) : ∃ w', (Instr.mapUpdate T (.map (some b)) (dv k) v).run P w = .ok () w' ∧ MapAt w' b (upd f k (some v)) ∧ w.grownBy w' (some b) ∧ w'.heap.size = w.heap.size := by
  have hlt := h.lt
  obtain ⟨l, clock, hb, F, hf⟩ := h
  have hg := MapKept.run_getObj_map (P := P) hb
  have hc := fun em => run_check hK hU hcU w em k hk
  have hs := run_find hK hU hcU w k hk l F.four
  rcases fnd_spec k l 0 with ⟨h1, h2, _⟩ | ⟨j, p, h1, h2, rfl, h4⟩
  · rw [hf] at h2; exact absurd h2 hin
  · have hget : (((l.map ent).toArray)[j]?).map (·.key) = some (dv p.1) := by simp [h2, ent]
    have hset := fun o => MapKept.run_setObj_map (P := P) o hb
    have hm := modify_ent h2 (fun e => { e with key := dv p.1, val := v }) (p.1, v, p.2.2) rfl
    refine ⟨reblock w b (.map ((l.set j (p.1, v, p.2.2)).map ent).toArray clock), ?_, ⟨_, _, reblock_at hlt _, F.set h2 v, fun k' => by rw [look_set h2 rfl F.keys, hf]; rfl⟩, reblock_grown _ _ _, reblock_size _ _ _⟩
    unfold Instr.mapUpdate
    simp only [Sem.run_bind, run_underlying hT, hg, Result.andThen_ok, hc, hs, h1, Nat.zero_add]
    rw [hget]
    simp only [Option.getD_some, Instr.keyThatStays, sameBits_dv, if_true, Sem.run_pure, Result.andThen_ok]
    rw [hset, hm]
    rfl
/-- delete(m, k) -/
theorem MapAt.del (h : MapAt w b f) (hin : f k ≠ none) (ty kt : TypeId) : ∃ w', (Builtin.delete_ #[T, kt] ty #[.map (some b), dv k]).run P w = .ok (.tuple #[]) w' ∧ MapAt w' b (upd f k none) ∧ w.grownBy w' (some b) ∧ w'.heap.size = w.heap.size := by
  have hlt := h.lt
  obtain ⟨l, clock, hb, F, hf⟩ := h
  have hg := MapKept.run_getObj_map (P := P) hb
  have hc := fun em => run_check hK hU hcU w em k hk
  have hs := run_find hK hU hcU w k hk l F.four
  rcases fnd_spec k l 0 with ⟨h1, h2, _⟩ | ⟨j, p, h1, h2, rfl, h4⟩
  · rw [hf] at h2; exact absurd h2 hin
  · have hset := fun o => MapKept.run_setObj_map (P := P) o hb
    have hj : j < l.length := by
      rcases Nat.lt_or_ge j l.length with h | h
      · exact h
      · rw [List.getElem?_eq_none h] at h2; cases h2
    have hm : (l.map ent).toArray.eraseIdxIfInBounds j = ((l.eraseIdx j).map ent).toArray := by
      apply Array.ext'
      simp [Array.eraseIdxIfInBounds, hj, erase_map]
    refine ⟨reblock w b (.map ((l.eraseIdx j).map ent).toArray clock), ?_, ⟨_, _, reblock_at hlt _, F.erase j, fun k' => by rw [look_erase h2 rfl F.keys, hf]; rfl⟩, reblock_grown _ _ _, reblock_size _ _ _⟩
    unfold Builtin.delete_
    simp only [List.getElem?_toArray, List.getElem?_cons_zero, List.getElem?_cons_succ]
    simp only [Sem.run_bind, run_underlying hT, hg, Result.andThen_ok, hc, hs, h1, Nat.zero_add, hset, hm, Sem.run_pure]
    rfl
/-- The entry of k, be it there or made; what is stored there then. -/
theorem MapAt.entry (h : MapAt w b f) : ∃ w1 born, (Instr.mapEntry T (.map (some b)) (dv k)).run P w = .ok (.tuple #[(f k).getD (.slice none 0 0), born]) w1 ∧ w.grownBy w1 (some b) ∧ w1.heap.size = w.heap.size ∧
    ∀ (w2 : World) (row : Option Nat) (v : Value), w1.grownBy w2 row → some b ≠ row → ∃ w3, (Instr.entryStore T (.map (some b)) born v).run P w2 = .ok () w3 ∧ MapAt w3 b (upd f k (some v)) ∧ w2.grownBy w3 (some b) ∧ w3.heap.size = w2.heap.size := by
  have hlt := h.lt
  obtain ⟨l, clock, hb, F, hf⟩ := h
  have hg := MapKept.run_getObj_map (P := P) hb
  have hc := fun em => run_check hK hU hcU w em k hk
  have hs := run_find hK hU hcU w k hk l F.four
  have hset := fun o => MapKept.run_setObj_map (P := P) o hb
  -- the way back
  have back : ∀ (l1 : List Ent) (c1 j : Nat) (p : Ent), Fine l1 c1 → l1[j]? = some p → p.1 = k → (∀ k', k' ≠ k → look l1 k' = f k') → ∀ (w2 : World) (row : Option Nat) (v : Value),
      (reblock w b (.map (l1.map ent).toArray c1)).grownBy w2 row → some b ≠ row → ∃ w3, (Instr.entryStore T (.map (some b)) (goInt p.2.2) v).run P w2 = .ok () w3 ∧ MapAt w3 b (upd f k (some v)) ∧ w2.grownBy w3 (some b) ∧ w3.heap.size = w2.heap.size := by
    intro l1 c1 j p F1 hj hp hl w2 row v hg2 hne
    have hb2 : w2.heap[b]? = some (.map (l1.map ent).toArray c1) := (hg2.block b (by rw [reblock_size]; exact hlt) hne).trans (reblock_at hlt _)
    have hlt2 : b < w2.heap.size := (Array.getElem?_eq_some_iff.1 hb2).1
    have hm := modify_ent hj (fun e => { e with val := v }) (p.1, v, p.2.2) rfl
    have hix : ((l1.map ent).toArray).findIdx? (fun e => (e.born : Int) == (p.2.2 : Int)) = some j := by
      rw [List.findIdx?_toArray]; exact stamp_idx hj F1.stamps
    refine ⟨reblock w2 b (.map ((l1.set j (p.1, v, p.2.2)).map ent).toArray c1), ?_, ⟨_, _, reblock_at hlt2 _, F1.set hj v, fun k' => ?_⟩, reblock_grown _ _ _, reblock_size _ _ _⟩
    · unfold Instr.entryStore
      simp only [Sem.run_bind, MapKept.run_getObj_map (P := P) hb2, Result.andThen_ok, goInt, asInt, asIntOf, Sem.run_pure]
      rw [hix]
      simp only [MapKept.run_setObj_map (P := P) _ hb2, hm]
      rfl
    · rw [hp, look_set hj hp F1.keys]
      unfold upd
      by_cases hk' : k' = k
      · rw [if_pos hk', if_pos hk']
      · rw [if_neg hk', if_neg hk', hl k' hk']
  rcases fnd_spec k l 0 with ⟨h1, h2, h3⟩ | ⟨j, p, h1, h2, rfl, h4⟩
  · have hnot : k ∉ l.map (·.1) := fun hm => by
      obtain ⟨q, hq, e⟩ := List.mem_map.1 hm
      exact h3 q hq e
    refine ⟨reblock w b (.map ((l ++ [(k, Value.slice none 0 0, clock)]).map ent).toArray (clock + 1)), goInt clock, ?_, reblock_grown _ _ _, reblock_size _ _ _, back _ _ l.length (k, Value.slice none 0 0, clock) (F.push hk hnot _) (by simp) rfl fun k' hk' => ?_⟩
    · rw [hf] at h2
      unfold Instr.mapEntry
      simp only [Sem.run_bind, run_underlying hT, hg, Result.andThen_ok, hc, hs, h1, hE, hset, Sem.run_pure, h2, Option.getD_none]
      congr 1
      unfold reblock
      simp [ent]
    · rw [look_push hnot, if_neg hk', hf]
  · have hget : (((l.map ent).toArray)[j]?).map (·.key) = some (dv p.1) := by simp [h2, ent]
    have hgetb : (((l.map ent).toArray)[j]?).map (fun x => (x.born : Int)) = some (p.2.2 : Int) := by simp [h2, ent]
    have hm := modify_ent h2 (fun e => { e with key := dv p.1 }) p rfl
    have hsm : l.set j p = l := by
      have := set_map id l j p (by simpa using h2)
      simpa using this
    rw [hsm] at hm
    refine ⟨reblock w b (.map (l.map ent).toArray clock), goInt p.2.2, ?_, reblock_grown _ _ _, reblock_size _ _ _, back _ _ j p F h2 rfl fun k' hk' => hf k'⟩
    rw [hf] at h4
    unfold Instr.mapEntry
    simp only [Sem.run_bind, run_underlying hT, hg, Result.andThen_ok, hc, hs, h1, Nat.zero_add, h4, Option.getD_some]
    rw [hget, hgetb]
    simp only [Option.getD_some, Instr.keyThatStays, sameBits_dv, if_true, Sem.run_pure, Result.andThen_ok]
    rw [hset, hm]
    rfl
end
end Go.Proofs.Ythnjbmaiebiehaa
