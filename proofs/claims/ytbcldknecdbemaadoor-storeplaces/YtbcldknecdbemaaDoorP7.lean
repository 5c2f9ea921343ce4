/-
  Contracts, joined (Amap Cut2 LzN LzB LzC Off LzD).
-/
import Derived.Test.YtbcldknecdbemaaDoorP1
import Derived.Test.YtbcldknecdbemaaDoorP2
import Derived.MapKept
import Derived.DeepKeys3
import Derived.Maps.Range
import Derived.Test.YtbcldknecdbemaaDoorP3
import Derived.Test.YtbcldknecdbemaaDoorRows
import Derived.Laws.BitsAllLaws
import Derived.Outline
import Derived.Lib.Hide
import Derived.BigQuiet
import Derived.Deep.AppendSrc
import Derived.Test.YtbcldknecdbemaaDoorP6

/-
  Maps whose keys are arrays of four bytes (of no program): what is looked up, stored, deleted, key by key.
-/
namespace Go.Proofs.YtbcldknecdbemaaDoor
open Go.RowKit
set_option linter.unusedVariables false
set_option maxRecDepth 20000
set_option linter.unusedSectionVars false

/-- A key, its value, its stamp. -/
abbrev Ent := List UInt8 × Value × Nat
def ent (p : Ent) : MapEntry := { key := dv p.1, val := p.2.1, born := p.2.2 }
def fndFrom (k : List UInt8) : List Ent → Nat → Option (Nat × Value)
  | [], _ => none
  | p :: r, i => if k == p.1 then some (i, p.2.1) else fndFrom k r (i + 1)
structure Fine (l : List Ent) (clock : Nat) : Prop where
  four : ∀ p ∈ l, p.1.length = 4
  keys : (l.map (·.1)).Nodup
  stamps : (l.map (·.2.2)).Nodup
  past : ∀ p ∈ l, p.2.2 < clock
/-- The value at a key. -/
def look (l : List Ent) (k : List UInt8) : Option Value := (l.find? (fun p => k == p.1)).map (·.2.1)

theorem fnd_spec (k : List UInt8) : ∀ (l : List Ent) (i : Nat), (fndFrom k l i = none ∧ look l k = none ∧ ∀ p ∈ l, p.1 ≠ k) ∨ ∃ j p, fndFrom k l i = some (i + j, p.2.1) ∧ l[j]? = some p ∧ p.1 = k ∧ look l k = some p.2.1
  | [], i => .inl ⟨rfl, rfl, fun _ h => by simp at h⟩
  | p :: r, i => by
    by_cases h : k = p.1
    · refine .inr ⟨0, p, ?_, rfl, h.symm, ?_⟩
      · simp [fndFrom, h]
      · simp [look, h]
    · have hb : (k == p.1) = false := by simpa using h
      have e1 : fndFrom k (p :: r) i = fndFrom k r (i + 1) := by simp [fndFrom, hb]
      have e2 : look (p :: r) k = look r k := by simp [look, hb]
      rw [e1, e2]
      rcases fnd_spec k r (i + 1) with ⟨h1, h2, h3⟩ | ⟨j, q, h1, h2, h3, h4⟩
      · exact .inl ⟨h1, h2, fun x hx => by
          rcases List.mem_cons.1 hx with rfl | hx
          · exact fun e => h e.symm
          · exact h3 x hx⟩
      · exact .inr ⟨j + 1, q, by rw [h1, show i + 1 + j = i + (j + 1) by omega], h2, h3, h4⟩

section
variable {P : Program} {T K E U : TypeId} (hT : P.underlying T = some (.map K E)) (hK : P.underlying K = some (.array 4 U)) (hU : P.underlying U = some (.int .u8)) (hcU : P.cellsOf U = 1) (w : World)
include hK hU hcU

theorem equal_key (la lb : List UInt8) (ha : la.length = 4) (hb : lb.length = 4) : (Op.equal K (dv la) (dv lb)).run P w = .ok (la == lb) w := by
  obtain ⟨i, hi⟩ := info_of_underlying hU
  have h := run_equalIn_array (P := P) w 9999 (t := K) (la.map bv).toArray (lb.map bv).toArray hK hi
  rw [hcU, run_items_bytes w 9998 hU la lb (List.range 4) (fun j hj => by have := List.mem_range.1 hj; omega), all_eq la lb 4 ha hb] at h
  simp [Op.equal, Op.maxDepth, h]

theorem find_key (k : List UInt8) (hk : k.length = 4) : ∀ (l : List Ent) (i : Nat), (∀ p ∈ l, p.1.length = 4) → (Instr.findAsking K (dv k) (l.map ent) i).run P w = .ok (fndFrom k l i) w
  | [], i, _ => by simp [Instr.findAsking, fndFrom]
  | p :: r, i, h => by
    have ih := find_key k hk r (i + 1) (fun q hq => h q (by simp [hq]))
    have he := equal_key hK hU hcU w k p.1 hk (h p (by simp))
    simp only [List.map_cons, Instr.findAsking, Sem.run_bind, ent, he, Result.andThen_ok, fndFrom]
    split <;> simp_all

theorem run_find (k : List UInt8) (hk : k.length = 4) (l : List Ent) (h : ∀ p ∈ l, p.1.length = 4) : (Instr.findKey K (dv k) (l.map ent)).run P w = .ok (fndFrom k l 0) w := by
  rw [run_findKey_eq w (by simp [hK])]
  exact find_key hK hU hcU w k hk l 0 h

theorem run_check (em : Bool) (k : List UInt8) (hk : k.length = 4) : (Instr.checkKey em 10000 K (dv k)).run P w = .ok () w := by
  obtain ⟨i, hi⟩ := info_of_underlying hU
  have hsz : (sizeOf U).run P w = .ok 1 w := by
    have := hcU
    simp [Program.cellsOf, hi] at this
    simp [sizeOf, typeInfo, hi, this]
  have hp : ∀ j, j < 4 → ∃ x : UInt8, (part U (k.map bv).toArray j).run P w = .ok (bv x) w := fun j hj => ⟨_, run_part_byte w hU k j (by omega)⟩
  have hc : ∀ x : UInt8, (Instr.checkKey em 9999 U (bv x)).run P w = .ok () w := fun x => by
    show (Instr.checkKey em (9998 + 1) U (bv x)).run P w = _
    rw [Instr.checkKey]
    simp only [Sem.run_bind, run_underlying hU, Result.andThen_ok, Sem.run_pure]
  obtain ⟨x0, h0⟩ := hp 0 (by omega)
  obtain ⟨x1, h1⟩ := hp 1 (by omega)
  obtain ⟨x2, h2⟩ := hp 2 (by omega)
  obtain ⟨x3, h3⟩ := hp 3 (by omega)
  show (Instr.checkKey em (9999 + 1) K (dv k)).run P w = _
  rw [Instr.checkKey]
  simp only [Sem.run_bind, run_underlying hK, Result.andThen_ok, dv]
  simp only [Std.Legacy.Range.forIn_eq_forIn_range', Std.Legacy.Range.size, Nat.sub_zero, Nat.add_one_sub_one, Nat.div_one]
  simp [List.range', List.forIn_cons, hsz, h0, h1, h2, h3, hc]
end

theorem sameBits_dv (n : Nat) (k : List UInt8) : Instr.sameBits (n + 1) (dv k) (dv k) = true := by
  rw [Instr.sameBits]
  simp only [beq_self_eq_true, Bool.true_and, List.all_eq_true]
  intro x hx
  obtain ⟨a, b⟩ := x
  have : a = b ∧ a ∈ k.map bv := by
    clear n
    generalize k.map bv = m at hx ⊢
    induction m with
    | nil => simp at hx
    | cons c r ih =>
      simp only [List.zip_cons_cons, List.mem_cons, Prod.mk.injEq] at hx
      rcases hx with ⟨rfl, rfl⟩ | hx
      · exact ⟨rfl, by simp⟩
      · exact ⟨(ih hx).1, by simp [(ih hx).2]⟩
  obtain ⟨rfl, hm⟩ := this
  obtain ⟨y, _, rfl⟩ := List.mem_map.1 hm
  cases n <;> simp [Instr.sameBits]

def upd (f : List UInt8 → Option Value) (k : List UInt8) (v : Option Value) : List UInt8 → Option Value := fun k' => if k' = k then v else f k'

section
variable {k k' : List UInt8} {v : Value} {s : Nat} {p : Ent}
theorem look_cons (p : Ent) (l : List Ent) (k : List UInt8) : look (p :: l) k = if k = p.1 then some p.2.1 else look l k := by
  by_cases h : k = p.1
  · simp [look, h]
  · have hb : (k == p.1) = false := by simpa using h
    simp [look, hb, h]
theorem look_none : ∀ {l : List Ent}, k ∉ l.map (·.1) → look l k = none
  | [], _ => rfl
  | q :: r, h => by
    simp only [List.map_cons, List.mem_cons, not_or] at h
    rw [look_cons, if_neg h.1, look_none h.2]
theorem look_set : ∀ {l : List Ent} {i : Nat}, l[i]? = some p → p.1 = k → (l.map (·.1)).Nodup → look (l.set i (k, v, s)) k' = if k' = k then some v else look l k'
  | [], i, h, _, _ => by simp at h
  | q :: r, 0, h, hp, hn => by
    simp at h
    subst h
    rw [List.set_cons_zero, look_cons, look_cons, hp]
    split <;> rfl
  | q :: r, i + 1, h, hp, hn => by
    simp only [List.getElem?_cons_succ] at h
    simp only [List.map_cons, List.nodup_cons] at hn
    have hq : q.1 ≠ k := fun e => hn.1 (by rw [e, ← hp]; exact List.mem_map_of_mem (List.mem_of_getElem? h))
    rw [List.set_cons_succ, look_cons, look_cons, look_set h hp hn.2]
    by_cases h1 : k' = k
    · subst h1; rw [if_pos rfl, if_pos rfl, if_neg (fun e => hq e.symm)]
    · rw [if_neg h1, if_neg h1]
theorem look_erase : ∀ {l : List Ent} {i : Nat}, l[i]? = some p → p.1 = k → (l.map (·.1)).Nodup → look (l.eraseIdx i) k' = if k' = k then none else look l k'
  | [], i, h, _, _ => by simp at h
  | q :: r, 0, h, hp, hn => by
    simp at h
    subst h
    simp only [List.map_cons, List.nodup_cons] at hn
    rw [List.eraseIdx_cons_zero, look_cons, hp]
    by_cases h1 : k' = k
    · subst h1; rw [if_pos rfl, look_none (by rw [← hp]; exact hn.1)]
    · rw [if_neg h1, if_neg h1]
  | q :: r, i + 1, h, hp, hn => by
    simp only [List.getElem?_cons_succ] at h
    simp only [List.map_cons, List.nodup_cons] at hn
    have hq : q.1 ≠ k := fun e => hn.1 (by rw [e, ← hp]; exact List.mem_map_of_mem (List.mem_of_getElem? h))
    rw [List.eraseIdx_cons_succ, look_cons, look_cons, look_erase h hp hn.2]
    by_cases h1 : k' = k
    · subst h1; rw [if_pos rfl, if_pos rfl, if_neg (fun e => hq e.symm)]
    · rw [if_neg h1, if_neg h1]
theorem look_push : ∀ {l : List Ent}, k ∉ l.map (·.1) → look (l ++ [(k, v, s)]) k' = if k' = k then some v else look l k'
  | [], _ => by rw [List.nil_append, look_cons]
  | q :: r, h => by
    simp only [List.map_cons, List.mem_cons, not_or] at h
    rw [List.cons_append, look_cons, look_cons, look_push h.2]
    by_cases h1 : k' = k
    · subst h1; rw [if_pos rfl, if_pos rfl, if_neg h.1]
    · rw [if_neg h1, if_neg h1]

theorem erase_map {α β : Type} (g : α → β) : ∀ (l : List α) (j : Nat), (l.map g).eraseIdx j = (l.eraseIdx j).map g
  | [], _ => by simp
  | a :: r, 0 => by simp
  | a :: r, j + 1 => by simp [erase_map g r j]
theorem set_map {α β : Type} (g : α → β) (l : List α) (i : Nat) (q : α) (h : (l[i]?).map g = some (g q)) : (l.set i q).map g = l.map g := by
  apply List.ext_getElem?
  intro j
  rw [List.getElem?_map, List.getElem?_map, List.getElem?_set]
  by_cases hj : i = j
  · subst hj
    have hi : i < l.length := by
      rcases Nat.lt_or_ge i l.length with h1 | h1
      · exact h1
      · rw [List.getElem?_eq_none h1] at h; cases h
    rw [if_pos rfl, if_pos hi, h]; rfl
  · rw [if_neg hj]
theorem Fine.set {l : List Ent} {clock i : Nat} (F : Fine l clock) (h : l[i]? = some p) (v : Value) : Fine (l.set i (p.1, v, p.2.2)) clock := by
  refine ⟨fun q hq => ?_, ?_, ?_, fun q hq => ?_⟩
  · rcases List.mem_or_eq_of_mem_set hq with h1 | rfl
    · exact F.four q h1
    · exact F.four p (List.mem_of_getElem? h)
  · rw [set_map _ _ _ _ (by rw [h]; rfl)]; exact F.keys
  · rw [set_map _ _ _ _ (by rw [h]; rfl)]; exact F.stamps
  · rcases List.mem_or_eq_of_mem_set hq with h1 | rfl
    · exact F.past q h1
    · exact F.past p (List.mem_of_getElem? h)
theorem Fine.erase {l : List Ent} {clock : Nat} (F : Fine l clock) (i : Nat) : Fine (l.eraseIdx i) clock := by
  have hs : (l.eraseIdx i).Sublist l := List.eraseIdx_sublist l i
  exact ⟨fun q hq => F.four q (hs.mem hq), F.keys.sublist (hs.map _), F.stamps.sublist (hs.map _), fun q hq => F.past q (hs.mem hq)⟩
theorem Fine.push {l : List Ent} {clock : Nat} (F : Fine l clock) (hk : k.length = 4) (hn : k ∉ l.map (·.1)) (v : Value) : Fine (l ++ [(k, v, clock)]) (clock + 1) := by
  refine ⟨fun q hq => ?_, ?_, ?_, fun q hq => ?_⟩
  · rcases List.mem_append.1 hq with h1 | h1
    · exact F.four q h1
    · simp at h1; subst h1; exact hk
  · rw [List.map_append, List.nodup_append]
    exact ⟨F.keys, by simp, fun a ha b hb => by simp at hb; subst hb; exact fun e => hn (e ▸ ha)⟩
  · rw [List.map_append, List.nodup_append]
    refine ⟨F.stamps, by simp, fun a ha b hb => ?_⟩
    simp at hb
    obtain ⟨q, hq, rfl⟩ := List.mem_map.1 ha
    have := F.past q hq
    omega
  · rcases List.mem_append.1 hq with h1 | h1
    · have := F.past q h1; omega
    · simp at h1; subst h1; exact Nat.lt_succ_self _
theorem stamp_idx : ∀ {l : List Ent} {i : Nat}, l[i]? = some p → (l.map (·.2.2)).Nodup → (l.map ent).findIdx? (fun e => (e.born : Int) == (p.2.2 : Int)) = some i
  | [], i, h, _ => by simp at h
  | q :: r, 0, h, hn => by
    simp at h
    subst h
    simp [List.findIdx?_cons, ent]
  | q :: r, i + 1, h, hn => by
    simp only [List.getElem?_cons_succ] at h
    simp only [List.map_cons, List.nodup_cons] at hn
    have hq : ¬ ((q.2.2 : Int) = (p.2.2 : Int)) := fun e => hn.1 (by rw [show q.2.2 = p.2.2 by omega]; exact List.mem_map_of_mem (List.mem_of_getElem? h))
    have ih := stamp_idx h hn.2
    rw [List.map_cons, List.findIdx?_cons, ih]
    simp [ent, hq]
theorem modify_ent {l : List Ent} {i : Nat} (h : l[i]? = some p) (g : MapEntry → MapEntry) (q : Ent) (hg : g (ent p) = ent q) : (l.map ent).toArray.modify i g = ((l.set i q).map ent).toArray := by
  apply Array.ext'
  rw [Array.toList_modify]
  apply List.ext_getElem?
  intro j
  simp only [List.getElem?_modify, List.getElem?_map, List.getElem?_set]
  by_cases hj : i = j
  · subst hj
    have hi : i < l.length := by
      rcases Nat.lt_or_ge i l.length with h1 | h1
      · exact h1
      · rw [List.getElem?_eq_none h1] at h; cases h
    have hx : l[i] = p := by rw [List.getElem?_eq_getElem hi] at h; injection h
    simp [hi, hx, hg]
  · simp [hj]
end

/-- Block b is such a map, and f tells its values. -/
def MapAt (w : World) (b : Nat) (f : List UInt8 → Option Value) : Prop := ∃ l clock, w.heap[b]? = some (.map (l.map ent).toArray clock) ∧ Fine l clock ∧ ∀ k, look l k = f k
theorem MapAt.lt {w : World} {b : Nat} {f : List UInt8 → Option Value} (h : MapAt w b f) : b < w.heap.size := by
  obtain ⟨l, clock, hb, _⟩ := h
  exact (Array.getElem?_eq_some_iff.1 hb).1
theorem MapAt.kept {w w' : World} {b : Nat} {f : List UInt8 → Option Value} {row : Option Nat} (h : MapAt w b f) (hg : w.grownBy w' row) (hne : some b ≠ row) : MapAt w' b f := by
  have hlt := h.lt
  obtain ⟨l, clock, hb, F⟩ := h
  exact ⟨l, clock, (hg.block b hlt hne).trans hb, F⟩
theorem MapAt.new (w : World) : MapAt (w.alloc (.map #[] 0)) w.heap.size (fun _ => none) :=
  ⟨[], 0, heap_alloc_new w _, ⟨fun _ h => by simp at h, by simp, by simp, fun _ h => by simp at h⟩, fun _ => rfl⟩
/-- The block is set anew. -/
def reblock (w : World) (b : Nat) (o : Obj) : World := { w with heap := w.heap.setIfInBounds b o }
theorem reblock_at {w : World} {b : Nat} (h : b < w.heap.size) (o : Obj) : (reblock w b o).heap[b]? = some o := by
  simp [reblock, h]
theorem reblock_grown (w : World) (b : Nat) (o : Obj) : w.grownBy (reblock w b o) (some b) :=
  ⟨rfl, rfl, rfl, by simp [reblock], fun k hk hne => by
    have : b ≠ k := fun e => hne (by rw [e])
    simp [reblock, Array.getElem?_setIfInBounds_ne this]⟩
theorem reblock_size (w : World) (b : Nat) (o : Obj) : (reblock w b o).heap.size = w.heap.size := by simp [reblock]

section
variable {P : Program} {T K E U : TypeId} (hT : P.underlying T = some (.map K E)) (hK : P.underlying K = some (.array 4 U)) (hU : P.underlying U = some (.int .u8)) (hcU : P.cellsOf U = 1)
  (hE : ∀ w : World, (zeroValue E).run P w = .ok (.slice none 0 0) w) {w : World} {b : Nat} {f : List UInt8 → Option Value} {k : List UInt8} (hk : k.length = 4)
include hT hK hU hcU hE hk

/-- m[k] -/
theorem MapAt.get (h : MapAt w b f) : (Instr.lookup T (.map (some b)) (dv k) false).run P w = .ok ((f k).getD (.slice none 0 0)) w := by
  obtain ⟨l, clock, hb, F, hf⟩ := h
  have hg := MapKept.run_getObj_map (P := P) hb
  have hc := fun em => run_check hK hU hcU w em k hk
  have hs := run_find hK hU hcU w k hk l F.four
  unfold Instr.lookup
  simp only [Sem.run_bind, run_underlying hT, hg, Result.andThen_ok, Sem.run_pure, hc, hs]
  rcases fnd_spec k l 0 with ⟨h1, h2, _⟩ | ⟨j, p, h1, _, _, h4⟩
  · rw [hf] at h2
    simp [h1, h2, hE w]
  · rw [hf] at h4
    simp [h1, h4]
/-- m[k] = v, where there is an entry. -/
theorem MapAt.put (h : MapAt w b f) (hin : f k ≠ none) (v : Value) : ∃ w', (Instr.mapUpdate T (.map (some b)) (dv k) v).run P w = .ok () w' ∧ MapAt w' b (upd f k (some v)) ∧ w.grownBy w' (some b) ∧ w'.heap.size = w.heap.size := by
  have hlt := h.lt
  obtain ⟨l, clock, hb, F, hf⟩ := h
  have hg := MapKept.run_getObj_map (P := P) hb
  have hc := fun em => run_check hK hU hcU w em k hk
  have hs := run_find hK hU hcU w k hk l F.four
  rcases fnd_spec k l 0 with ⟨h1, h2, _⟩ | ⟨j, p, h1, h2, rfl, h4⟩
  · rw [hf] at h2; exact absurd h2 hin
  · have hget : (((l.map ent).toArray)[j]?).map (·.key) = some (dv p.1) := by simp [h2, ent]
    have hset := fun o => MapKept.run_setObj_map (P := P) o hb
    have hm := modify_ent h2 (fun e => { e with key := dv p.1, val := v }) (p.1, v, p.2.2) rfl
    refine ⟨reblock w b (.map ((l.set j (p.1, v, p.2.2)).map ent).toArray clock), ?_, ⟨_, _, reblock_at hlt _, F.set h2 v, fun k' => by rw [look_set h2 rfl F.keys, hf]; rfl⟩, reblock_grown _ _ _, reblock_size _ _ _⟩
    unfold Instr.mapUpdate
    simp only [Sem.run_bind, run_underlying hT, hg, Result.andThen_ok, hc, hs, h1, Nat.zero_add]
    rw [hget]
    simp only [Option.getD_some, Instr.keyThatStays, sameBits_dv, if_true, Sem.run_pure, Result.andThen_ok]
    rw [hset, hm]
    rfl
/-- delete(m, k) -/
theorem MapAt.del (h : MapAt w b f) (hin : f k ≠ none) (ty kt : TypeId) : ∃ w', (Builtin.delete_ #[T, kt] ty #[.map (some b), dv k]).run P w = .ok (.tuple #[]) w' ∧ MapAt w' b (upd f k none) ∧ w.grownBy w' (some b) ∧ w'.heap.size = w.heap.size := by
  have hlt := h.lt
  obtain ⟨l, clock, hb, F, hf⟩ := h
  have hg := MapKept.run_getObj_map (P := P) hb
  have hc := fun em => run_check hK hU hcU w em k hk
  have hs := run_find hK hU hcU w k hk l F.four
  rcases fnd_spec k l 0 with ⟨h1, h2, _⟩ | ⟨j, p, h1, h2, rfl, h4⟩
  · rw [hf] at h2; exact absurd h2 hin
  · have hset := fun o => MapKept.run_setObj_map (P := P) o hb
    have hj : j < l.length := by
      rcases Nat.lt_or_ge j l.length with h | h
      · exact h
      · rw [List.getElem?_eq_none h] at h2; cases h2
    have hm : (l.map ent).toArray.eraseIdxIfInBounds j = ((l.eraseIdx j).map ent).toArray := by
      apply Array.ext'
      simp [Array.eraseIdxIfInBounds, hj, erase_map]
    refine ⟨reblock w b (.map ((l.eraseIdx j).map ent).toArray clock), ?_, ⟨_, _, reblock_at hlt _, F.erase j, fun k' => by rw [look_erase h2 rfl F.keys, hf]; rfl⟩, reblock_grown _ _ _, reblock_size _ _ _⟩
    unfold Builtin.delete_
    simp only [List.getElem?_toArray, List.getElem?_cons_zero, List.getElem?_cons_succ]
    simp only [Sem.run_bind, run_underlying hT, hg, Result.andThen_ok, hc, hs, h1, Nat.zero_add, hset, hm, Sem.run_pure]
    rfl
/-- The entry of k, be it there or made; what is stored there then. -/
theorem MapAt.entry (h : MapAt w b f) : ∃ w1 born, (Instr.mapEntry T (.map (some b)) (dv k)).run P w = .ok (.tuple #[(f k).getD (.slice none 0 0), born]) w1 ∧ w.grownBy w1 (some b) ∧ w1.heap.size = w.heap.size ∧
    ∀ (w2 : World) (row : Option Nat) (v : Value), w1.grownBy w2 row → some b ≠ row → ∃ w3, (Instr.entryStore T (.map (some b)) born v).run P w2 = .ok () w3 ∧ MapAt w3 b (upd f k (some v)) ∧ w2.grownBy w3 (some b) ∧ w3.heap.size = w2.heap.size := by
  have hlt := h.lt
  obtain ⟨l, clock, hb, F, hf⟩ := h
  have hg := MapKept.run_getObj_map (P := P) hb
  have hc := fun em => run_check hK hU hcU w em k hk
  have hs := run_find hK hU hcU w k hk l F.four
  have hset := fun o => MapKept.run_setObj_map (P := P) o hb
  -- the way back
  have back : ∀ (l1 : List Ent) (c1 j : Nat) (p : Ent), Fine l1 c1 → l1[j]? = some p → p.1 = k → (∀ k', k' ≠ k → look l1 k' = f k') → ∀ (w2 : World) (row : Option Nat) (v : Value),
      (reblock w b (.map (l1.map ent).toArray c1)).grownBy w2 row → some b ≠ row → ∃ w3, (Instr.entryStore T (.map (some b)) (goInt p.2.2) v).run P w2 = .ok () w3 ∧ MapAt w3 b (upd f k (some v)) ∧ w2.grownBy w3 (some b) ∧ w3.heap.size = w2.heap.size := by
    intro l1 c1 j p F1 hj hp hl w2 row v hg2 hne
    have hb2 : w2.heap[b]? = some (.map (l1.map ent).toArray c1) := (hg2.block b (by rw [reblock_size]; exact hlt) hne).trans (reblock_at hlt _)
    have hlt2 : b < w2.heap.size := (Array.getElem?_eq_some_iff.1 hb2).1
    have hm := modify_ent hj (fun e => { e with val := v }) (p.1, v, p.2.2) rfl
    have hix : ((l1.map ent).toArray).findIdx? (fun e => (e.born : Int) == (p.2.2 : Int)) = some j := by
      rw [List.findIdx?_toArray]; exact stamp_idx hj F1.stamps
    refine ⟨reblock w2 b (.map ((l1.set j (p.1, v, p.2.2)).map ent).toArray c1), ?_, ⟨_, _, reblock_at hlt2 _, F1.set hj v, fun k' => ?_⟩, reblock_grown _ _ _, reblock_size _ _ _⟩
    · unfold Instr.entryStore
      simp only [Sem.run_bind, MapKept.run_getObj_map (P := P) hb2, Result.andThen_ok, goInt, asInt, asIntOf, Sem.run_pure]
      rw [hix]
      simp only [MapKept.run_setObj_map (P := P) _ hb2, hm]
      rfl
    · rw [hp, look_set hj hp F1.keys]
      unfold upd
      by_cases hk' : k' = k
      · rw [if_pos hk', if_pos hk']
      · rw [if_neg hk', if_neg hk', hl k' hk']
  rcases fnd_spec k l 0 with ⟨h1, h2, h3⟩ | ⟨j, p, h1, h2, rfl, h4⟩
  · have hnot : k ∉ l.map (·.1) := fun hm => by
      obtain ⟨q, hq, e⟩ := List.mem_map.1 hm
      exact h3 q hq e
    refine ⟨reblock w b (.map ((l ++ [(k, Value.slice none 0 0, clock)]).map ent).toArray (clock + 1)), goInt clock, ?_, reblock_grown _ _ _, reblock_size _ _ _, back _ _ l.length (k, Value.slice none 0 0, clock) (F.push hk hnot _) (by simp) rfl fun k' hk' => ?_⟩
    · rw [hf] at h2
      unfold Instr.mapEntry
      simp only [Sem.run_bind, run_underlying hT, hg, Result.andThen_ok, hc, hs, h1, hE, hset, Sem.run_pure, h2, Option.getD_none]
      congr 1
      unfold reblock
      simp [ent]
    · rw [look_push hnot, if_neg hk', hf]
  · have hget : (((l.map ent).toArray)[j]?).map (·.key) = some (dv p.1) := by simp [h2, ent]
    have hgetb : (((l.map ent).toArray)[j]?).map (fun x => (x.born : Int)) = some (p.2.2 : Int) := by simp [h2, ent]
    have hm := modify_ent h2 (fun e => { e with key := dv p.1 }) p rfl
    have hsm : l.set j p = l := by
      have := set_map id l j p (by simpa using h2)
      simpa using this
    rw [hsm] at hm
    refine ⟨reblock w b (.map (l.map ent).toArray clock), goInt p.2.2, ?_, reblock_grown _ _ _, reblock_size _ _ _, back _ _ j p F h2 rfl fun k' hk' => hf k'⟩
    rw [hf] at h4
    unfold Instr.mapEntry
    simp only [Sem.run_bind, run_underlying hT, hg, Result.andThen_ok, hc, hs, h1, Nat.zero_add, h4, Option.getD_some]
    rw [hget, hgetb]
    simp only [Option.getD_some, Instr.keyThatStays, sameBits_dv, if_true, Sem.run_pure, Result.andThen_ok]
    rw [hset, hm]
    rfl
end
end Go.Proofs.YtbcldknecdbemaaDoor

/-
  Cuts of a slice whose elements have one cell (of no program), whatever the bounds: where what is cut out lies.
-/
namespace Go.Proofs.YtbcldknecdbemaaDoor
open Go.RowKit
set_option linter.unusedVariables false
set_option maxRecDepth 20000
set_option linter.unusedSectionVars false

section
variable {P : Program} {t e : TypeId} (ht : P.underlying t = some (.slice e)) (hs : (P.info? e).map (·.size) = some 1) (A : Option Addr) (n c : Nat)
include ht hs
/-- b[l:h] -/
theorem cut_mid (k k' : IntKind) (lo hi : Int) (l h : Nat) (hlo : lo = (l : Int)) (hhi : hi = (h : Int)) (h1 : l ≤ h) (h2 : h ≤ c) :
    ∃ A' : Option Addr, (∀ u, (Instr.sliceAt t (.slice A n c) (some (.int k lo)) (some (.int k' hi)) none).run P u = .ok (.slice A' (h - l) (c - l)) u) ∧
      ∀ (w : World) (B : Nat) (vs : List Value), Lies w B A vs → Lies w B A' ((vs.drop l).take (h - l)) := by
  subst hlo hhi
  have ht' : P.underlying t = some (.slice (P.elem t)) := by rw [elem_of ht hs]; exact ht
  refine ⟨if c = l then A else A.map (·.add l), fun u => ?_, fun w B vs hL => ?_⟩
  · rw [run_sliceAt_slice u t _ _ _ _ ht', run_slice_lh u t A n c ht' k k' l h (by omega) (by omega) (by omega), size_of_elem ht hs]
    simp [Result.andThen, sliced]
  · split
    · rw [show h - l = 0 by omega]
      simp [Lies.empty]
    · exact (hL.from_ l).take _
/-- b[l:] -/
theorem cut_from (k : IntKind) (lo : Int) (l : Nat) (hlo : lo = (l : Int)) (h1 : l ≤ n) (h2 : n ≤ c) :
    ∃ A' : Option Addr, (∀ u, (Instr.sliceAt t (.slice A n c) (some (.int k lo)) none none).run P u = .ok (.slice A' (n - l) (c - l)) u) ∧
      ∀ (w : World) (B : Nat) (vs : List Value), vs.length = n → Lies w B A vs → Lies w B A' (vs.drop l) := by
  subst hlo
  have ht' : P.underlying t = some (.slice (P.elem t)) := by rw [elem_of ht hs]; exact ht
  refine ⟨if c = l then A else A.map (·.add l), fun u => ?_, fun w B vs hv hL => ?_⟩
  · rw [run_sliceAt_slice u t _ _ _ _ ht', run_slice_l u t A n c ht' k l (by omega) (by omega), size_of_elem ht hs]
    simp [Result.andThen, sliced]
  · split
    · rw [List.drop_eq_nil_of_le (by omega)]
      exact Lies.empty
    · exact hL.from_ l
/-- b[:h] -/
theorem cut_to (k : IntKind) (hi : Int) (h : Nat) (hhi : hi = (h : Int)) (h2 : h ≤ c) (u : World) : (Instr.sliceAt t (.slice A n c) none (some (.int k hi)) none).run P u = .ok (.slice A h c) u := by
  subst hhi
  exact run_cut_to ht hs A n c h k h2 u
end
/-- What a cut b[l:] leads to, as a walk spells it. -/
theorem Lies.cut {w : World} {B : Nat} {A : Option Addr} {vs : List Value} (h : Lies w B A vs) {l c : Nat} (hv : vs.length ≤ c) : Lies w B (if c = l then A else A.map (·.add l)) (vs.drop l) := by
  split
  · rw [List.drop_eq_nil_of_le (by omega)]
    exact Lies.empty
  · exact h.from_ l
end Go.Proofs.YtbcldknecdbemaaDoor

/-
  The longest match among places that are given, as a function of lists (of no program).
-/
namespace Go.Proofs.YtbcldknecdbemaaDoor
set_option linter.unusedVariables false
set_option maxRecDepth 20000

/-- One distance more is looked at. -/
def bstep (b : List UInt8) (i : Nat) (acc : Nat × Nat) (d : Nat) : Nat × Nat := if 4 ≤ mlen b i d ∧ acc.1 < mlen b i d then (mlen b i d, d) else acc
/-- The longest match at i that begins at one of these places, the last ones first. -/
def lgo (b : List UInt8) (i : Nat) (js : List Nat) : Nat × Nat := js.foldr (fun j acc => bstep b i acc (i - j)) (0, 0)
theorem lgo_nil (b : List UInt8) (i : Nat) : lgo b i [] = (0, 0) := rfl
theorem lgo_cons (b : List UInt8) (i j : Nat) (js : List Nat) : lgo b i (j :: js) = bstep b i (lgo b i js) (i - j) := rfl
theorem lgo_drop {b : List UInt8} {i k j : Nat} {js : List Nat} (h : js[k]? = some j) : lgo b i (js.drop k) = bstep b i (lgo b i (js.drop (k + 1))) (i - j) := by
  have hk : k < js.length := by
    rcases Nat.lt_or_ge k js.length with h1 | h1
    · exact h1
    · rw [List.getElem?_eq_none h1] at h; cases h
  rw [List.drop_eq_getElem_cons hk, lgo_cons]
  rw [List.getElem?_eq_getElem hk] at h
  injection h with h
  rw [h]
theorem bstep_le {b : List UInt8} {i d : Nat} {acc : Nat × Nat} (h : acc.1 ≤ 131) : (bstep b i acc d).1 ≤ 131 := by
  unfold bstep
  split
  · exact mlen_le _ _ _
  · exact h
theorem lgo_le (b : List UInt8) (i : Nat) : ∀ js, (lgo b i js).1 ≤ 131
  | [] => by simp [lgo]
  | j :: js => by rw [lgo_cons]; exact bstep_le (lgo_le b i js)
theorem bstep_full {b : List UInt8} {i d : Nat} {acc : Nat × Nat} (h : ¬ acc.1 < 131) : bstep b i acc d = acc := by
  unfold bstep
  have := mlen_le b i d
  rw [if_neg (by omega)]
theorem lgo_full {b : List UInt8} {i : Nat} {js : List Nat} : ∀ m, ¬ (lgo b i (js.drop m)).1 < 131 → lgo b i js = lgo b i (js.drop m)
  | 0, _ => rfl
  | m + 1, h => by
    by_cases hm : m < js.length
    · have e : lgo b i (js.drop m) = lgo b i (js.drop (m + 1)) := by
        rw [lgo_drop (List.getElem?_eq_getElem hm), bstep_full h]
      rw [← e]
      exact lgo_full m (by rw [e]; exact h)
    · rw [List.drop_eq_nil_of_le (by omega)] at h
      simp [lgo] at h
theorem lgo_dist (b : List UInt8) (i : Nat) : ∀ js, (lgo b i js).2 ≤ i
  | [] => by simp [lgo]
  | j :: js => by
    rw [lgo_cons]
    unfold bstep
    split
    · exact Nat.sub_le _ _
    · exact lgo_dist b i js
theorem lgo_all (b : List UInt8) (i : Nat) : ∀ m, m ≤ i → lgo b i (List.range' (i - m) m) = bestTo b i m
  | 0, _ => rfl
  | m + 1, h => by
    rw [List.range'_succ, lgo_cons, show i - (m + 1) + 1 = i - m by omega, lgo_all b i m (by omega), show i - (i - (m + 1)) = m + 1 by omega]
    rfl
theorem lgo_match {b : List UInt8} {i : Nat} (h : i < b.length) : lgo b i (List.range' (i - min i 1024) (min i 1024)) = matchOf b i := by
  rw [lgo_all b i _ (by omega)]
  unfold matchOf
  rw [if_pos h]
/-- Places at which fewer than four bytes are alike count nothing. -/
theorem lgo_filter {b : List UInt8} {i : Nat} {p : Nat → Bool} : ∀ (js : List Nat), (∀ j ∈ js, p j = false → mlen b i (i - j) < 4) → lgo b i (js.filter p) = lgo b i js
  | [], _ => rfl
  | j :: js, h => by
    have ih := lgo_filter js (fun k hk => h k (by simp [hk]))
    by_cases hp : p j = true
    · rw [List.filter_cons_of_pos hp, lgo_cons, lgo_cons, ih]
    · have hp' : p j = false := by simpa using hp
      have h4 := h j (by simp) hp'
      rw [List.filter_cons_of_neg hp, lgo_cons, ih]
      unfold bstep
      rw [if_neg (by omega)]
end Go.Proofs.YtbcldknecdbemaaDoor

/-
  Contracts of lz's alike, longest and Match.
-/
namespace Go.Proofs.YtbcldknecdbemaaDoor
open Go.RowKit
set_option linter.unusedVariables false
set_option maxRecDepth 20000

theorem ret_i64 {a b : Int} (h : a = b) : Ending.returned (.int .i64 a) = .returned (.int .i64 b) := by rw [h]
/-- An int as a value. -/
abbrev iv (n : Nat) : Value := .int .i64 (n : Int)
theorem iv_one (l : List Nat) : ∀ u ∈ l.map iv, u.oneCell' = true := fun u hu => by
  obtain ⟨b, _, rfl⟩ := List.mem_map.1 hu
  rfl
theorem int_info : (Tryd.prog.info? 3).map (fun i => (i.zero, i.size, i.bytes)) = some (some (.int .i64 0), 1, 8) := by kernel_rfl

set_option maxRecDepth 20000 in
set_option maxHeartbeats 1000000 in
theorem alike_any (A : Option Addr) (n c i d : Nat) (bs : List UInt8) (w : World) (hl : bs.length = n) (hr : Lies w w.heap.size A (bs.map bv)) (hi : i < n) (hd1 : 1 ≤ d) (hd : d ≤ i) (hn : n ≤ 1000000000000) :
    Calls Tryd.prog 145 #[.slice A n c, .int .i64 (i : Int), .int .i64 (d : Int)] w fun e w' => e = .returned (.int .i64 (mlen bs i d : Int)) ∧ Grows w w' := by
  have HL := Lib.hid hl
  have HM : Hid (mgo bs i d (131 - 0) 0 = mlen bs i d) := rfl
  clear hl
  generalize mlen bs i d = want at *
  obtain ⟨most, hmost⟩ : ∃ most, most = min 131 (n - i) := ⟨_, rfl⟩
  have hmi : min (131 : Int) ((n : Int) - (i : Int)) = (most : Int) := by omega
  go_enter Tryd.func145, Tryd.ntmps145
  by_cases h131 : (131 : Int) ≤ (n : Int) - (i : Int)
  all_goals
    go_wp2
    go_loopw [8] (fun q wr => ∃ k : Nat, q = .int .i64 k ∧ k ≤ most ∧ Hid (mgo bs i d (131 - k) k = want) ∧ Grows w wr) (fun q _ => 131 - (intOf q).toNat)
    case atStart => exact ⟨0, rfl, by omega, HM.out, Grows.refl _⟩
    case round =>
      obtain ⟨k, rfl, hk, HK, hgr⟩ := hrel
      by_cases hlt : k < most
      · obtain ⟨x, hx⟩ : ∃ x, bs[i + k]? = some x := ⟨_, List.getElem?_eq_getElem (by rw [HL.out]; omega)⟩
        obtain ⟨y, hy⟩ : ∃ y, bs[i + k - d]? = some y := ⟨_, List.getElem?_eq_getElem (by rw [HL.out]; omega)⟩
        obtain ⟨ad, eA, _, cx⟩ := (hr.later hgr).at_ (j := i + k) (u := bv x) (by rw [List.getElem?_map, hx]; rfl)
        obtain ⟨ad', eA', _, cy⟩ := (hr.later hgr).at_ (j := i + k - d) (u := bv y) (by rw [List.getElem?_map, hy]; rfl)
        obtain rfl : ad = ad' := by rw [eA] at eA'; injection eA'
        subst eA
        have k0 : (0 : Int) ≤ (i : Int) + (k : Int) := by omega
        have k1 : (i : Int) + (k : Int) < (n : Int) := by omega
        have k2 : (0 : Int) ≤ (i : Int) + (k : Int) - (d : Int) := by omega
        have k3 : (i : Int) + (k : Int) - (d : Int) < (n : Int) := by omega
        have t1 : ((i : Int) + (k : Int)).toNat = i + k := by omega
        have t2 : ((i : Int) + (k : Int) - (d : Int)).toNat = i + k - d := by omega
        have l1 : (k : Int) < 131 := by omega
        have l2 : (k : Int) < (n : Int) - (i : Int) := by omega
        by_cases hxy : x = y
        · have hb : ((x.toNat : Int) == (y.toNat : Int)) = true := by simp [hxy]
          have HS : Hid (mgo bs i d (131 - (k + 1)) (k + 1) = want) := by
            show _ = _
            rw [← mgo_go (by omega) (by rw [HL.out]; omega) (by rw [hx, hy, hxy])]; exact HK.out
          clear hx hy HK hxy
          go_wp2
          go_quiet (fail)
          go_wp2
          go_roundw
          case rel => exact ⟨k + 1, by go_num, by omega, HS.out, below_draws hgr⟩
          case measure => simp [intOf]; omega
        · have hb : ((x.toNat : Int) == (y.toNat : Int)) = false := by
            rw [beq_eq_false_iff_ne]
            intro e; exact hxy (UInt8.toNat_inj.1 (by omega))
          have HS : Hid (k = want) := by
            show _ = _
            rw [← HK.out, mgo_end (fun h => by have := h.2.2; rw [hx, hy] at this; injection this with this; exact hxy this)]
          clear hx hy HK hxy
          go_wp2
          go_quiet (fail)
          go_wp2
          go_ret
          exact ⟨ret_i64 (by rw [← HS.out]), below_draws hgr⟩
      · have HS : Hid (k = want) := by
          show _ = _
          rw [← HK.out, mgo_end (fun h => by have h1 := h.1; have h2 := h.2.1; rw [HL.out] at h2; omega)]
        first
          | (have l1 : decide ((k : Int) < 131) = false := by rw [decide_eq_false_iff_not]; omega
             go_wp2
             go_quiet (fail)
             go_wp2
             go_ret
             exact ⟨ret_i64 (by rw [← HS.out]), below_draws hgr⟩)
          | (have l1 : decide ((k : Int) < (n : Int) - (i : Int)) = false := by rw [decide_eq_false_iff_not]; omega
             go_wp2
             go_quiet (fail)
             go_wp2
             go_ret
             exact ⟨ret_i64 (by rw [← HS.out]), below_draws hgr⟩)

set_option maxRecDepth 20000 in
set_option maxHeartbeats 1000000 in
theorem longest_any (A : Option Addr) (n c i : Nat) (bs : List UInt8) (A2 : Option Addr) (m c2 : Nat) (js : List Nat) (w : World) (hl : bs.length = n) (hr : Lies w w.heap.size A (bs.map bv)) (hj : js.length = m) (hr2 : Lies w w.heap.size A2 (js.map iv))
    (hlt : ∀ j ∈ js, j < i) (hi : i < n) (hn : n ≤ 1000000000000) (hm : m ≤ 1000000000000) :
    Calls Tryd.prog 122 #[.slice A n c, .int .i64 (i : Int), .slice A2 m c2] w fun e w' => e = .returned (.tuple #[iv (lgo bs i js).1, iv (lgo bs i js).2]) ∧ Grows w w' := by
  have HL := Lib.hid hl
  have HJ := Lib.hid hj
  have HT := Lib.hid hlt
  have HA := Lib.hid (fun (d : Nat) (hd1 : 1 ≤ d) (hd : d ≤ i) (u : World) (hu : Lies u u.heap.size A (bs.map bv)) => alike_any A n c i d bs u hl hu hi hd1 hd hn)
  have HQ : Hid ((0, 0) = lgo bs i (js.drop m)) := by show _ = _; rw [List.drop_eq_nil_of_le (by omega)]; rfl
  clear hl hj hlt
  go_enter Tryd.func122, Tryd.ntmps122
  go_wp2
  go_loopw [8, 9, 10, 11, 12] (fun a b q _ _ wr => ∃ (x y k : Nat), a = iv x ∧ b = iv y ∧ q = .int .i64 ((k : Int) - 1) ∧ k ≤ m ∧ Hid ((x, y) = lgo bs i (js.drop k)) ∧ Grows w wr) (fun _ _ q _ _ _ => (intOf q + 1).toNat)
  case atStart => exact ⟨0, 0, m, rfl, rfl, rfl, Nat.le_refl _, HQ.out, Grows.refl _⟩
  case round =>
    obtain ⟨x, y, k, rfl, rfl, rfl, hk, HK, hgr⟩ := hrel
    by_cases hk0 : k = 0
    · subst hk0
      have HX : Hid (lgo bs i js = (x, y)) := HK.out.symm
      clear HK
      go_wp2
      go_ret2
      rw [HX.out]
      exact ⟨rfl, hgr⟩
    · obtain ⟨j0, rfl⟩ : ∃ j0, k = j0 + 1 := ⟨k - 1, by omega⟩
      rw [show ((j0 + 1 : Nat) : Int) - 1 = (j0 : Int) by omega]
      by_cases hx : x < 131
      · obtain ⟨j, hjj⟩ : ∃ j, js[j0]? = some j := ⟨_, List.getElem?_eq_getElem (by rw [HJ.out]; omega)⟩
        have hji := HT.out j (List.mem_of_getElem? hjj)
        obtain ⟨ad, rfl, _, cx⟩ := (hr2.later hgr).at_ (j := j0) (u := iv j) (by rw [List.getElem?_map, hjj]; rfl)
        have HD := Lib.hid (lgo_drop (b := bs) (i := i) hjj)
        clear hjj
        have j1 : (j0 : Int) < (m : Int) := by omega
        obtain ⟨d, hd⟩ : ∃ d, d = i - j := ⟨_, rfl⟩
        have hd' : (i : Int) - (j : Int) = (d : Int) := by omega
        have hdd : 1 ≤ d ∧ d ≤ i := by omega
        have HDD := Lib.hid hd
        clear hd
        go_wp2_with fail
        refine (HA.out d hdd.1 hdd.2 _ (hr.later hgr)).mono ?_
        rintro e w2 ⟨rfl, hg2⟩
        have hg12 := Grows.trans hgr hg2
        rw [← HDD.out, ← HK.out] at HD
        have hml := mlen_le bs i d
        unfold bstep at HD
        generalize mlen bs i d = q at *
        clear hg2 cx hd'
        by_cases hq : 4 ≤ q
        · by_cases hq2 : x < q
          · have HN : Hid ((q, d) = lgo bs i (js.drop j0)) := by show _ = _; rw [HD.out, if_pos ⟨hq, hq2⟩]
            clear HD HK
            go_wp2_with fail
            go_roundw
            case rel => exact ⟨q, d, j0, rfl, rfl, by go_num, by omega, HN.out, hg12⟩
            case measure => simp [intOf]
          · have HN : Hid ((x, y) = lgo bs i (js.drop j0)) := by show _ = _; rw [HD.out, if_neg (by simp only []; omega)]
            clear HD HK
            go_wp2_with fail
            go_roundw
            case rel => exact ⟨x, y, j0, rfl, rfl, by go_num, by omega, HN.out, hg12⟩
            case measure => simp [intOf]
        · have HN : Hid ((x, y) = lgo bs i (js.drop j0)) := by show _ = _; rw [HD.out, if_neg (by omega)]
          clear HD HK
          go_wp2_with fail
          go_roundw
          case rel => exact ⟨x, y, j0, rfl, rfl, by go_num, by omega, HN.out, hg12⟩
          case measure => simp [intOf]
      · have HX : Hid (lgo bs i js = (x, y)) := by
          show _ = _
          rw [HK.out]
          exact lgo_full (j0 + 1) (by rw [← HK.out]; exact hx)
        clear HK
        go_wp2
        go_ret2
        rw [HX.out]
        exact ⟨rfl, hgr⟩
end Go.Proofs.YtbcldknecdbemaaDoor

/-
  Contracts of lz's putLiterals and putMatch: what is put behind bytes that the call owns.
-/
namespace Go.Proofs.YtbcldknecdbemaaDoor
open Go.RowKit
set_option linter.unusedVariables false
set_option maxRecDepth 20000

theorem byte_one : (Tryd.prog.info? 5).map (·.size) = some 1 := by kernel_rfl
theorem int_one : (Tryd.prog.info? 3).map (·.size) = some 1 := by kernel_rfl

/-- From v in w to v' in w': nothing but v's own block has turned, and v' lies there or in a new one. -/
structure Wrote (v v' : Value) (w w' : World) : Prop where
  grown : w.grownBy w' v.ownBlock
  at_ : v'.ownBlock = v.ownBlock ∨ ∃ g, v'.ownBlock = some g ∧ w.heap.size ≤ g
theorem Wrote.refl (v : Value) (w : World) : Wrote v v w w := ⟨World.grownBy.refl w _, .inl rfl⟩
theorem Wrote.trans {v v1 v2 : Value} {w w1 w2 : World} (h : Wrote v v1 w w1) (k : Wrote v1 v2 w1 w2) : Wrote v v2 w w2 := by
  have hs := h.grown.size
  refine ⟨h.grown.andThen k.grown fun j hj => ?_, ?_⟩
  · rcases h.at_ with e | ⟨g, e, hg⟩
    · exact .inr (e ▸ hj)
    · rw [e] at hj; injection hj with hj; exact .inl (by omega)
  · rcases k.at_ with e | ⟨g, e, hg⟩
    · rcases h.at_ with e' | ⟨g', e', hg'⟩
      · exact .inl (e.trans e')
      · exact .inr ⟨g', e.trans e', hg'⟩
    · exact .inr ⟨g, e, by omega⟩
theorem Wrote.app {v v' : Value} {w w' : World} (hg : w.grownBy w' v.ownBlock) (hat : v'.ownBlock = v.ownBlock ∨ v'.ownBlock = some w.heap.size) : Wrote v v' w w' :=
  ⟨hg, hat.imp_right fun e => ⟨_, e, Nat.le_refl _⟩⟩
theorem grows_by {w w' : World} (h : Grows w w') (row : Option Nat) : w.grownBy w' row := ⟨h.os, h.tape, h.output, h.size, fun k hk _ => h.block k hk⟩
theorem Wrote.later {v v' : Value} {w w1 w' : World} (h : Grows w w1) (k : Wrote v v' w1 w') : Wrote v v' w w' := Wrote.trans ⟨grows_by h _, .inl rfl⟩ k
theorem Wrote.then_ {v v' : Value} {w w1 w' : World} (k : Wrote v v' w w1) (h : Grows w1 w') : Wrote v v' w w' := Wrote.trans k ⟨grows_by h _, .inl rfl⟩
theorem Wrote.below {v v' : Value} {w w' : World} {B : Nat} (h : Wrote v v' w w') (hB : B ≤ w.heap.size) (hv : ∀ g, v.ownBlock = some g → B ≤ g) : Below B w w' := (Below.refl B w).grown h.grown hB hv

def slen : Value → Nat
  | .slice _ n _ => n
  | _ => 0

set_option maxRecDepth 20000 in
set_option maxHeartbeats 2000000 in
theorem putlits_any (v : Value) (base m : Nat) (out : List UInt8) (A : Option Addr) (n c : Nat) (bs : List UInt8) (w : World) (hown : w.ownsRow base 5 1 v m (out.map bv)) (hl : bs.length = n) (hr : Lies w base A (bs.map bv)) (hc : n ≤ c)
    (hb : base ≤ w.heap.size) (hn : m + 2 * n ≤ 1000000000000) :
    Calls Tryd.prog 124 #[v, .slice A n c] w fun e w' => ∃ v', e = .returned v' ∧ w'.ownsRow base 5 1 v' (out ++ lits bs).length ((out ++ lits bs).map bv) ∧ Wrote v v' w w' := by
  obtain ⟨i0, hi0, hz0, hz1, hz2⟩ := info_parts byte_info
  have hm : out.length = m := by simpa using hown.1
  have HL := Lib.hid hl
  subst hm
  have HF : Hid (out ++ lits bs = out ++ lits (bs.drop 0)) := rfl
  clear hl
  obtain ⟨W, hW⟩ : ∃ W, W = out ++ lits bs := ⟨_, rfl⟩
  rw [← hW] at HF ⊢
  clear hW
  go_enter Tryd.func124, Tryd.ntmps124
  go_wp2
  go_loopw [0, 1, 5] (fun p l _ wr => ∃ (j : Nat) (o' : List UInt8) (A' : Option Addr) (c' : Nat), j ≤ n ∧ l = .slice A' (n - j) c' ∧ n - j ≤ c' ∧ Lies wr base A' ((bs.drop j).map bv) ∧ Hid (W = o' ++ lits (bs.drop j)) ∧ o'.length ≤ out.length + 2 * j ∧
      wr.ownsRow base 5 1 p o'.length (o'.map bv) ∧ Wrote v p w wr) (fun _ l _ _ => slen l)
  case atStart => exact ⟨0, out, A, c, Nat.zero_le _, rfl, hc, hr, HF.out, by omega, hown, Wrote.refl _ _⟩
  case round =>
    obtain ⟨j, o', A', c', hj, rfl, hc', hL, HO, hol, hown', hw⟩ := hrel
    by_cases hlt : j < n
    · obtain ⟨k, hk⟩ : ∃ k, k = min 128 (n - j) := ⟨_, rfl⟩
      have hmin : (if ((n - j : Nat) : Int) < 128 then ((n - j : Nat) : Int) else 128) = (k : Int) := by split <;> omega
      have hpos : (0 : Int) < ((n - j : Nat) : Int) := by omega
      have hk1 : 1 ≤ k ∧ k ≤ 128 ∧ k ≤ n - j := by omega
      have hbyte : (k : Int) - 1 = ((UInt8.ofNat (k - 1)).toNat : Int) := by rw [UInt8.toNat_ofNat']; omega
      have HNE : Hid (bs.drop j ≠ []) := fun h0 => by have := congrArg List.length h0; rw [List.length_drop, HL.out] at this; simp at this; omega
      have HST : Hid (lits (bs.drop j) = [UInt8.ofNat (k - 1)] ++ (bs.drop j).take k ++ lits (bs.drop (j + k))) := by
        show _ = _
        have e1 : (bs.drop j).take 128 = (bs.drop j).take k := by
          rcases Nat.lt_or_ge 128 (n - j) with h | h
          · rw [show k = 128 by omega]
          · rw [List.take_of_length_le (by rw [List.length_drop, HL.out]; omega), List.take_of_length_le (by rw [List.length_drop, HL.out]; omega)]
        have e2 : (bs.drop j).drop 128 = (bs.drop (j + k)) := by
          rw [List.drop_drop]
          rcases Nat.lt_or_ge 128 (n - j) with h | h
          · rw [show k = 128 by omega]
          · rw [List.drop_eq_nil_of_le (by rw [HL.out]; omega), List.drop_eq_nil_of_le (by rw [HL.out]; omega)]
        rw [lits_more HNE.out, e1, e2, List.length_take, List.length_drop, HL.out, Nat.min_eq_left (by omega)]
        simp
      have HPL : Hid (((bs.drop j).take k).length = k) := by show _ = _; rw [List.length_take, List.length_drop, HL.out]; omega
      have hLt : Lies wr base A' (((bs.drop j).take k).map bv) := by rw [List.map_take]; exact hL.take k
      have hct := cut_to (P := Tryd.prog) Tryd.underlying22 byte_one A' (n - j) c' .i64 (k : Int) k rfl (by omega)
      have HCT := Lib.hid hct
      clear hct
      generalize (bs.drop j).take k = piece at *
      generalize UInt8.ofNat (k - 1) = q at *
      have hq8 := q.toNat_lt
      have HK := Lib.hid hk
      clear hk
      have hnew := Lies.new wr 5 [bv q]
      have hwb : base ≤ wr.heap.size := Nat.le_trans hb hw.grown.size
      go_wp2_with (first
        | (with_reducible refine wpList_cut rfl 22 (.tmp 19) none (some (.tmp 20)) none rfl _ (HCT.out _) ?_)
        | (at_builtin; refine wpList_append_src _ rfl (.tmp 12) (.tmp 16) _ rfl base 5 i0 _ 1 Tryd.underlying22 hi0 hz0 hz1 hz2 rfl _ o'.length _ rfl (hown'.alloc _) _ _ 1 1 [bv q] rfl rfl hnew (by simp [Value.oneCell']) (by unfold maxLen; omega) (by omega) (by rw [World.size_alloc]; omega) ?_; intro v1 w1 hown1 hg1 hat1)
        | (at_builtin; refine wpList_append_src _ rfl (.tmp 18) (.tmp 21) _ rfl base 5 i0 _ 1 Tryd.underlying22 hi0 hz0 hz1 hz2 rfl _ (o'.length + 1) _ rfl hown1 base A' k c' (piece.map bv) rfl (by rw [List.length_map]; exact HPL.out) (hLt.below (Wrote.below (Wrote.later (grows_alloc _ _) (Wrote.app hg1 hat1)) hwb (own_ge hown'))) (bv_one piece) (by unfold maxLen; omega) (by omega) (Nat.le_trans hwb (Wrote.later (grows_alloc _ _) (Wrote.app hg1 hat1)).grown.size) ?_; intro v2 w2 hown2 hg2 hat2))
      have hW1 := Wrote.later (grows_alloc _ _) (Wrote.app hg1 hat1)
      have hW2 := hw.trans (hW1.trans (Wrote.app hg2 hat2))
      have e9 : o'.length + 1 + k = (o' ++ [q] ++ piece).length := by rw [List.length_append, List.length_append, HPL.out]; rfl
      rw [show [bv q] = [q].map bv from rfl, ← List.map_append, ← List.map_append, e9] at hown2
      have hB := Wrote.below hW2 hb (own_ge hown)
      go_roundw
      case rel =>
        refine ⟨j + k, o' ++ [q] ++ piece, _, c' - k, by omega, by rw [show n - j - k = n - (j + k) by omega], by omega, ?_, ?_, ?_, hown2, hW2⟩
        · have := (hL.below (Wrote.below (hW1.trans (Wrote.app hg2 hat2)) hwb (own_ge hown'))).cut (l := k) (c := c') (by rw [List.length_map, List.length_drop, HL.out]; exact hc')
          rwa [← List.map_drop, List.drop_drop] at this
        · show _ = _; rw [HO.out, HST.out]; simp
        · rw [← e9]; omega
      case measure => simp [slen]; omega
    · have HE : Hid (W = o') := by
        show _ = _
        rw [HO.out, List.drop_eq_nil_of_le (by rw [HL.out]; omega), lits_nil, List.append_nil]
      have hown2 : wr.ownsRow base 5 1 u0 W.length (W.map bv) := by rw [HE.out]; exact hown'
      go_wp2
      go_ret
      exact ⟨_, rfl, hown2, hw⟩

set_option maxRecDepth 20000 in
set_option maxHeartbeats 2000000 in
theorem putmatch_any (v : Value) (base m : Nat) (out : List UInt8) (x y : Nat) (w : World) (hown : w.ownsRow base 5 1 v m (out.map bv)) (hb : base ≤ w.heap.size) (hn : m ≤ 1000000000000) (hx : 4 ≤ x ∧ x ≤ 131) (hy : 1 ≤ y ∧ y ≤ 65536) :
    Calls Tryd.prog 125 #[v, iv x, iv y] w fun e w' => ∃ v', e = .returned v' ∧ w'.ownsRow base 5 1 v' (out ++ mtok (x, y)).length ((out ++ mtok (x, y)).map bv) ∧ Wrote v v' w w' := by
  obtain ⟨i0, hi0, hz0, hz1, hz2⟩ := info_parts byte_info
  have hm : out.length = m := by simpa using hown.1
  subst hm
  obtain ⟨d, rfl⟩ : ∃ d, y = d + 1 := ⟨y - 1, by omega⟩
  have HT : Hid (mtok (x, d + 1) = [UInt8.ofNat (124 + x), UInt8.ofNat (d % 256), UInt8.ofNat (d / 256)]) := rfl
  have b1 : (128 : Int) + (x : Int) - 4 = ((UInt8.ofNat (124 + x)).toNat : Int) := by rw [UInt8.toNat_ofNat']; omega
  have b2 : (d : Int) % 256 = ((UInt8.ofNat (d % 256)).toNat : Int) := by rw [UInt8.toNat_ofNat']; omega
  have b3 : (d : Int) / 256 = ((UInt8.ofNat (d / 256)).toNat : Int) := by rw [UInt8.toNat_ofNat']; omega
  have b0 : ((d + 1 : Nat) : Int) - 1 = (d : Int) := by omega
  generalize UInt8.ofNat (124 + x) = q1 at *
  generalize UInt8.ofNat (d % 256) = q2 at *
  generalize UInt8.ofNat (d / 256) = q3 at *
  have h1 := q1.toNat_lt
  have h2 := q2.toNat_lt
  have h3 := q3.toNat_lt
  have hnew := Lies.new w 5 [bv q1, bv q2, bv q3]
  generalize hyv : ((d + 1 : Nat) : Int) = yi at *
  go_enter Tryd.func125, Tryd.ntmps125
  go_wp2_with (at_builtin; refine wpList_append_src _ rfl (.tmp 10) (.tmp 20) _ rfl base 5 i0 _ 1 Tryd.underlying22 hi0 hz0 hz1 hz2 rfl _ out.length _ rfl (hown.alloc _) _ _ 3 3 [bv q1, bv q2, bv q3] rfl rfl hnew (by simp [Value.oneCell']) (by unfold maxLen; omega) (by omega) (by rw [World.size_alloc]; omega) ?_; intro v1 w1 hown1 hg1 hat1)
  go_ret
  refine ⟨_, rfl, ?_, Wrote.later (grows_alloc _ _) (Wrote.app hg1 hat1)⟩
  rw [HT.out, List.map_append, List.length_append]
  exact hown1
end Go.Proofs.YtbcldknecdbemaaDoor

/-
  Slices of ints that begin anywhere in a row of their own (of no program): one more put behind, the first one cut off. An array out of a slice. Operations on maps in a walk.
-/
namespace Go.Proofs.YtbcldknecdbemaaDoor
open Go.RowKit
set_option linter.unusedVariables false
set_option maxRecDepth 20000
set_option linter.unusedSectionVars false

/-- v is a slice of these ints, in a row that may be written. -/
def OffRow (w : World) (v : Value) (js : List Nat) : Prop := ∃ g o c vs, v = .slice (some ⟨g, o, none⟩) js.length c ∧ Has w g vs ∧ o + c ≤ vs.length ∧ js.length ≤ c ∧ ∀ (t j : Nat), js[t]? = some j → vs[o + t]? = some (iv j)
theorem Has.kept {w w' : World} {b : Nat} {vs : List Value} {row : Option Nat} (h : Has w b vs) (hg : w.grownBy w' row) (hne : some b ≠ row) : Has w' b vs :=
  ⟨Nat.lt_of_lt_of_le h.lt hg.size, fun j u hu => (World.cell?_of_block (hg.block b h.lt hne)).trans (h.cells j u hu), fun j => (World.frozen?_of_block (hg.block b h.lt hne)).trans (h.free j)⟩
theorem OffRow.kept {w w' : World} {v : Value} {js : List Nat} {row : Option Nat} (h : OffRow w v js) (hg : w.grownBy w' row) (hne : v.ownBlock ≠ row) : OffRow w' v js := by
  obtain ⟨g, o, c, vs, rfl, hH, h1, h2, h3⟩ := h
  exact ⟨g, o, c, vs, rfl, hH.kept hg hne, h1, h2, h3⟩
theorem OffRow.lt {w : World} {v : Value} {js : List Nat} (h : OffRow w v js) : ∃ g, v.ownBlock = some g ∧ g < w.heap.size := by
  obtain ⟨g, o, c, vs, rfl, hH, h1, h2, h3⟩ := h
  exact ⟨g, rfl, hH.lt⟩
theorem OffRow.lies {w : World} {v : Value} {js : List Nat} (h : OffRow w v js) : ∃ A c, v = .slice A js.length c ∧ Lies w w.heap.size A (js.map iv) := by
  obtain ⟨g, o, c, vs, rfl, hH, h1, h2, h3⟩ := h
  refine ⟨_, c, rfl, fun j u hu => ⟨_, rfl, hH.lt, ?_⟩⟩
  rw [List.getElem?_map] at hu
  obtain ⟨x, hx, rfl⟩ := Option.map_eq_some_iff.1 hu
  rw [add_plain]
  exact hH.cell (h3 j x hx)

section
variable {P : Program}
/-- append(v, i) -/
theorem off_append (t ty e : TypeId) (i : TypeInfo) (ht : P.underlying t = some (.slice e)) (hi : P.info? e = some i) (hz : i.zero = some (.int .i64 0)) (hs : i.size = 1) (hby : i.bytes = 8) {w : World} {v : Value} {js : List Nat}
    (hv : (v = .slice none 0 0 ∧ js = []) ∨ OffRow w v js) (a : Addr) (x : Nat) (hx : w.cell? (a.add 0) = some (iv x)) (hl : js.length ≤ 1000000000000) :
    ∃ v' w', (Builtin.append_ #[t, t] ty #[v, .slice (some a) 1 1]).run P w = .ok v' w' ∧ OffRow w' v' (js ++ [x]) ∧ Wrote v v' w w' := by
  have hnews : ∀ j u, [iv x][j]? = some u → w.cell? (a.add j) = some u := fun j u hu => by
    cases j with
    | zero => simp at hu; subst hu; exact hx
    | succ j => simp at hu
  -- what a new row is
  have grown : ∀ (olds : List Value) (cap : Nat), olds.length = js.length → js.length + 1 ≤ cap → (∀ (t j : Nat), js[t]? = some j → olds[t]? = some (iv j)) →
      OffRow (w.drew.alloc (.cells (olds.toArray ++ [iv x].toArray ++ Builtin.zeroCells (Value.int .i64 0).cells (cap - (js.length + 1))) e)) (.slice (some ⟨w.heap.size, 0, none⟩) (js.length + 1) cap) (js ++ [x]) := by
    intro olds cap ho hc hp
    have e1 : olds.toArray ++ [iv x].toArray ++ Builtin.zeroCells (Value.int .i64 0).cells (cap - (js.length + 1)) = (olds ++ [iv x] ++ (Builtin.zeroCells (Value.int .i64 0).cells (cap - (js.length + 1))).toList).toArray := by
      apply Array.ext'; simp
    have hzl : (Builtin.zeroCells (Value.int .i64 0).cells (cap - (js.length + 1))).toList.length = cap - (js.length + 1) := by
      rw [Array.length_toList, size_zeroCells]; simp [Value.cells]
    rw [e1]
    refine ⟨w.heap.size, 0, cap, _, by simp, Has.new w.drew e _, ?_, by simpa using hc, fun t j hj => ?_⟩
    · simp only [List.length_append, hzl, ho, List.length_singleton]; omega
    · rw [Nat.zero_add]
      rcases Nat.lt_or_ge t js.length with h1 | h1
      · rw [List.getElem?_append_left h1] at hj
        rw [List.append_assoc, List.getElem?_append_left (by omega)]
        exact hp t j hj
      · rw [List.getElem?_append_right h1] at hj
        have ht0 : t = js.length := by
          rcases Nat.eq_or_lt_of_le h1 with h | h
          · exact h.symm
          · rw [List.getElem?_eq_none (by simp; omega)] at hj; cases hj
        subst ht0
        simp at hj
        subst hj
        rw [List.getElem?_append_left (by simp [ho]), List.getElem?_append_right (by omega), ho]
        simp
  rcases hv with ⟨rfl, rfl⟩ | ⟨g, o, c, vs, rfl, hH, h1, h2, h3⟩
  · have hr := run_append_nil (P := P) w t ty e i _ ht hi hz a 1 1 [iv x] (by rw [hs]; rfl) hnews (by omega) (by omega) (by rw [hby]; omega)
    have hg := grown [] (grownCap w 1 0 e) rfl (by have := grownCap_ge w 1 0 e; simpa using this) (fun t j h => by simp at h)
    simp only [List.length_nil, Nat.zero_add] at hg
    refine ⟨_, _, hr, ?_, ⟨⟨rfl, rfl, rfl, by simp, fun k hk _ => heap_alloc_old w.drew _ hk⟩, .inr ⟨_, rfl, Nat.le_refl _⟩⟩⟩
    simpa using hg
  · by_cases hroom : js.length + 1 ≤ c
    · have hS : Src P i.size t (.slice (some a) 1 1) 1 [iv x] w := Src.ofSlice w ht a 1 1 [iv x] (by rw [hs]; rfl) hnews (by simp [Value.oneCell'])
      have hlt : o + js.length < vs.length := by omega
      have hr := run_append_room_src (P := P) w t t ty e i ht hi g o js.length c _ 1 [iv x] hS hroom
        (fun j hj => by
          have : j = 0 := by simpa using hj
          subst this
          rw [hs, Nat.mul_one, Nat.add_zero, hH.cell (List.getElem?_eq_getElem hlt)]; rfl)
        (fun j hj => hH.free _)
      rw [hs, Nat.mul_one] at hr
      refine ⟨_, _, hr, ⟨g, o, c, vs.set (o + js.length) (iv x), by simp, ?_, by simpa using h1, by simpa using hroom, fun t j hj => ?_⟩, ⟨⟨?_, ?_, ?_, ?_, ?_⟩, .inl rfl⟩⟩
      · exact hH.set_ hlt _
      · rcases Nat.lt_or_ge t js.length with h4 | h4
        · rw [List.getElem?_append_left h4] at hj
          rw [List.getElem?_set_ne (by omega)]
          exact h3 t j hj
        · rw [List.getElem?_append_right h4] at hj
          have ht0 : t = js.length := by
            rcases Nat.eq_or_lt_of_le h4 with h | h
            · exact h.symm
            · rw [List.getElem?_eq_none (by simp; omega)] at hj; cases hj
          subst ht0
          simp at hj
          subst hj
          exact List.getElem?_set_self hlt
      · simp [World.setCells, World.setCell]
      · simp [World.setCells, World.setCell]
      · simp [World.setCells, World.setCell]
      · rw [size_setCells]; exact Nat.le_refl _
      · intro k hk hne
        exact Below.heap_setCell w ⟨g, o + js.length, none⟩ (iv x) k (fun e => hne (by rw [e]; rfl))
    · have holds : ∀ j u, (js.map iv)[j]? = some u → w.cell? ((⟨g, o, none⟩ : Addr).add j) = some u := fun j u hu => by
        rw [List.getElem?_map] at hu
        obtain ⟨y, hy, rfl⟩ := Option.map_eq_some_iff.1 hu
        rw [add_plain]
        exact hH.cell (h3 j y hy)
      have hr := run_append_grow (P := P) w t ty e i _ ht hi hz ⟨g, o, none⟩ js.length c (js.map iv) (by rw [hs]; simp) holds a 1 1 [iv x] (by rw [hs]; rfl) hnews (by omega) (by omega) (growslice_fits (by omega) (by rw [hby]; omega))
      refine ⟨_, _, hr, ?_, ⟨⟨rfl, rfl, rfl, by simp, fun k hk _ => heap_alloc_old w.drew _ hk⟩, .inr ⟨_, rfl, Nat.le_refl _⟩⟩⟩
      exact grown (js.map iv) _ (by simp) (grownCap_ge _ _ _ _) (fun t j hj => by rw [List.getElem?_map, hj]; rfl)

/-- v[1:] -/
theorem off_cut (t e : TypeId) (ht : P.underlying t = some (.slice e)) (hs : (P.info? e).map (·.size) = some 1) {w : World} {v : Value} {j : Nat} {js : List Nat} (hv : OffRow w v (j :: js)) (h0 : js ≠ []) (k : IntKind) :
    ∃ v', (∀ u, (Instr.sliceAt t v (some (.int k 1)) none none).run P u = .ok v' u) ∧ OffRow w v' js ∧ v'.ownBlock = v.ownBlock := by
  obtain ⟨g, o, c, vs, rfl, hH, h1, h2, h3⟩ := hv
  have hl : 0 < js.length := List.length_pos_iff.2 h0
  have h2' : js.length + 1 ≤ c := by simpa using h2
  have ht' : P.underlying t = some (.slice (P.elem t)) := by rw [elem_of ht hs]; exact ht
  have hr := fun u => run_cut_from (P := P) ht hs (some ⟨g, o, none⟩) (j :: js).length c 1 k (by simp) (by omega) u
  refine ⟨_, hr, ⟨g, o + 1, c - 1, vs, ?_, hH, by omega, by omega, fun t x hx => ?_⟩, ?_⟩
  · simp [add_plain]
  · rw [show o + 1 + t = o + (t + 1) by omega]
    exact h3 (t + 1) x (by simpa using hx)
  · simp [Value.ownBlock, add_plain]

/-- The address of an array of four out of a slice. -/
theorem run_arrayAt {K U : TypeId} (hK : P.underlying K = some (.array 4 U)) (A : Option Addr) (n c : Nat) (hn : 4 ≤ n) (w : World) : (Instr.arrayAt K (.slice A n c)).run P w = .ok (.pointer A) w := by
  simp [Instr.arrayAt, run_underlying hK, show ¬ n < 4 by omega]
theorem load_lies {K U : TypeId} (hK : P.underlying K = some (.array 4 U)) (hi : (P.info? K).map (·.size) = some 4) {w : World} {B : Nat} {A : Option Addr} {l : List UInt8} (hl : l.length = 4) (h : Lies w B A (l.map bv)) :
    (Instr.loadAt K (.pointer A)).run P w = .ok (dv l) w := by
  obtain ⟨x, hx⟩ : ∃ x, l[0]? = some x := ⟨_, List.getElem?_eq_getElem (by omega)⟩
  obtain ⟨ad, rfl, _, _⟩ := h 0 (bv x) (by rw [List.getElem?_map, hx]; rfl)
  obtain ⟨i, hi1, hi2⟩ := Option.map_eq_some_iff.1 hi
  have hc := run_loadCells_list (P := P) w ad (l.map bv) h.cells
  rw [List.length_map, hl] at hc
  simp [Instr.loadAt, Instr.sureAddr, loadVar, isAgg, run_underlying hK, sizeOf, typeInfo, hi1, hi2, hc]

variable {ops : Array Oper} {rest : List Oper} {o : Oper} {a : Act} {w : World} {Q : Exit → Act → World → Prop}
theorem wpList_arrayAt (hgd : o.guard = none) (K : TypeId) (x : Operand) (ho : o.op = .sliceToArrayPointer K x) (A : Option Addr) (n c : Nat) (hx : a.eval x = .slice A n c) (h : (Instr.arrayAt K (.slice A n c)).run P w = .ok (.pointer A) w)
    (hk : wpList P ops Q rest (a.put o.dst (.pointer A)) w) : wpList P ops Q (o :: rest) a w := by
  refine wpList_plain hgd fun K' hK' => ?_
  unfold Oper.wp execOp
  simp only [ho, hx, Sem.run_bind, h, Result.andThen_ok, Sem.run_pure]
  exact hK' _ _ hk
theorem wpList_look (hgd : o.guard = none) (T : TypeId) (x y : Operand) (ho : o.op = .lookup T x y false) (mv kv v : Value) (hx : a.eval x = mv) (hy : a.eval y = kv) (h : (Instr.lookup T mv kv false).run P w = .ok v w)
    (hk : wpList P ops Q rest (a.put o.dst v) w) : wpList P ops Q (o :: rest) a w := by
  refine wpList_plain hgd fun K' hK' => ?_
  unfold Oper.wp execOp
  simp only [ho, hx, hy, Sem.run_bind, h, Result.andThen_ok, Sem.run_pure]
  exact hK' _ _ hk
theorem wpList_mapEntry (hgd : o.guard = none) (T : TypeId) (x y : Operand) (ho : o.op = .mapEntry T x y) (mv kv v : Value) (w1 : World) (hx : a.eval x = mv) (hy : a.eval y = kv) (h : (Instr.mapEntry T mv kv).run P w = .ok v w1)
    (hk : wpList P ops Q rest (a.put o.dst v) w1) : wpList P ops Q (o :: rest) a w := by
  refine wpList_plain hgd fun K' hK' => ?_
  unfold Oper.wp execOp
  simp only [ho, hx, hy, Sem.run_bind, h, Result.andThen_ok, Sem.run_pure]
  exact hK' _ _ hk
theorem wpList_entryStore (hgd : o.guard = none) (T : TypeId) (x y z : Operand) (ho : o.op = .entryStore T x y z) (mv kv v : Value) (w1 : World) (hx : a.eval x = mv) (hy : a.eval y = kv) (hz : a.eval z = v) (h : (Instr.entryStore T mv kv v).run P w = .ok () w1)
    (hk : wpList P ops Q rest (a.put o.dst undef) w1) : wpList P ops Q (o :: rest) a w := by
  refine wpList_plain hgd fun K' hK' => ?_
  unfold Oper.wp execOp
  simp only [ho, hx, hy, hz, Sem.run_bind, h, Result.andThen_ok, Sem.run_pure]
  exact hK' _ _ hk
theorem wpList_mapPut (hgd : o.guard = none) (T : TypeId) (x y z : Operand) (ho : o.op = .mapUpdate T x y z) (mv kv v : Value) (w1 : World) (hx : a.eval x = mv) (hy : a.eval y = kv) (hz : a.eval z = v) (h : (Instr.mapUpdate T mv kv v).run P w = .ok () w1)
    (hk : wpList P ops Q rest (a.put o.dst undef) w1) : wpList P ops Q (o :: rest) a w := by
  refine wpList_plain hgd fun K' hK' => ?_
  unfold Oper.wp execOp
  simp only [ho, hx, hy, hz, Sem.run_bind, h, Result.andThen_ok, Sem.run_pure]
  exact hK' _ _ hk
theorem wpList_appendv (hgd : o.guard = none) (s x : Operand) (t : TypeId) (ho : o.op = .call { callee := .builtin .append, args := #[s, x], argTypes := #[t, t] }) (sv xv v : Value) (w1 : World) (hs : a.eval s = sv) (hx : a.eval x = xv)
    (h : (Builtin.append_ #[t, t] o.type #[sv, xv]).run P w = .ok v w1) (hk : wpList P ops Q rest (a.put o.dst v) w1) : wpList P ops Q (o :: rest) a w := by
  refine wpList_plain hgd fun K hK => ?_
  unfold Oper.wp execOp
  simp only [ho, resolve, invoke, builtin, Sem.run_bind, Sem.run_pure, Result.andThen_ok, List.map_toArray, List.map_cons, List.map_nil, hs, hx, h]
  exact hK _ _ hk
theorem wpList_deletev (hgd : o.guard = none) (s x : Operand) (t kt : TypeId) (ho : o.op = .call { callee := .builtin .delete, args := #[s, x], argTypes := #[t, kt] }) (sv xv v : Value) (w1 : World) (hs : a.eval s = sv) (hx : a.eval x = xv)
    (h : (Builtin.delete_ #[t, kt] o.type #[sv, xv]).run P w = .ok v w1) (hk : wpList P ops Q rest (a.put o.dst v) w1) : wpList P ops Q (o :: rest) a w := by
  refine wpList_plain hgd fun K hK => ?_
  unfold Oper.wp execOp
  simp only [ho, resolve, invoke, builtin, Sem.run_bind, Sem.run_pure, Result.andThen_ok, List.map_toArray, List.map_cons, List.map_nil, hs, hx, h]
  exact hK _ _ hk
end
end Go.Proofs.YtbcldknecdbemaaDoor

/-
  The places of four bytes that lz keeps in a map: contracts of at, keep and forget.
-/
namespace Go.Proofs.YtbcldknecdbemaaDoor
open Go.RowKit
set_option linter.unusedVariables false
set_option maxRecDepth 20000

theorem hT_ : Tryd.prog.underlying 178 = some (.map 212 181) := by kernel_rfl
theorem hK_ : Tryd.prog.underlying 212 = some (.array 4 5) := by kernel_rfl
theorem hU_ : Tryd.prog.underlying 5 = some (.int .u8) := by kernel_rfl
theorem hcU_ : Tryd.prog.cellsOf 5 = 1 := by kernel_rfl
theorem hKi_ : (Tryd.prog.info? 212).map (·.size) = some 4 := by kernel_rfl
theorem hEz_ : (Tryd.prog.info? 181).map (·.zero) = some (some (.slice none 0 0)) := by kernel_rfl
theorem hE_ (w : World) : (zeroValue 181).run Tryd.prog w = .ok (.slice none 0 0) w := by
  obtain ⟨i, hi, hz⟩ := Option.map_eq_some_iff.1 hEz_
  simp [zeroValue, typeInfo, hi, hz]

/-- The places from lo on, m of them, at which these four bytes stand. -/
def win (bs : List UInt8) (lo m : Nat) (k : List UInt8) : List Nat := (List.range' lo m).filter (fun j => decide ((bs.drop j).take 4 = k ∧ k.length = 4))
theorem win_len (bs : List UInt8) (lo m : Nat) (k : List UInt8) : (win bs lo m k).length ≤ m := by
  have := List.length_filter_le (fun j => decide ((bs.drop j).take 4 = k ∧ k.length = 4)) (List.range' lo m)
  simpa [win] using this
theorem win_short {bs : List UInt8} {lo m : Nat} {k : List UInt8} (h : k.length ≠ 4) : win bs lo m k = [] := by
  unfold win
  rw [List.filter_eq_nil_iff]
  intro j _
  simp [h]
theorem win_more (bs : List UInt8) (lo m : Nat) (k : List UInt8) : win bs lo (m + 1) k = if (bs.drop (lo + m)).take 4 = k ∧ k.length = 4 then win bs lo m k ++ [lo + m] else win bs lo m k := by
  unfold win
  rw [List.range'_concat, Nat.one_mul, List.filter_append]
  by_cases h : (bs.drop (lo + m)).take 4 = k ∧ k.length = 4
  · rw [if_pos h, List.filter_cons_of_pos (by simp [h.1, h.2])]; rfl
  · rw [if_neg h, List.filter_cons_of_neg (by simpa using h)]; simp
theorem win_less (bs : List UInt8) (lo m : Nat) (k : List UInt8) : win bs lo (m + 1) k = if (bs.drop lo).take 4 = k ∧ k.length = 4 then lo :: win bs (lo + 1) m k else win bs (lo + 1) m k := by
  unfold win
  rw [List.range'_succ]
  by_cases h : (bs.drop lo).take 4 = k ∧ k.length = 4
  · rw [if_pos h, List.filter_cons_of_pos (by simp [h.1, h.2])]
  · rw [if_neg h, List.filter_cons_of_neg (by simpa using h)]

/-- Block b is the map of the places that L tells; their rows lie behind b, and none in the block pb. -/
def Places (w : World) (b : Nat) (pb : Option Nat) (L : List UInt8 → List Nat) : Prop := ∃ f, MapAt w b f ∧
  (∀ k, (f k = none ∧ L k = []) ∨ ∃ v, f k = some v ∧ L k ≠ [] ∧ OffRow w v (L k) ∧ (∀ g, v.ownBlock = some g → b < g) ∧ v.ownBlock ≠ pb) ∧ ∀ k1 k2 v1 v2, k1 ≠ k2 → f k1 = some v1 → f k2 = some v2 → v1.ownBlock ≠ v2.ownBlock
theorem Places.kept {w w' : World} {b : Nat} {pb : Option Nat} {L : List UInt8 → List Nat} (h : Places w b pb L) (hg : w.grownBy w' pb) (hb : some b ≠ pb) : Places w' b pb L := by
  obtain ⟨f, hM, hf, hd⟩ := h
  refine ⟨f, hM.kept hg hb, fun k => ?_, hd⟩
  rcases hf k with h1 | ⟨v, h1, h2, h3, h4, h5⟩
  · exact .inl h1
  · exact .inr ⟨v, h1, h2, h3.kept hg h5, h4, h5⟩
theorem Places.reno {w : World} {b : Nat} {pb pb' : Option Nat} {L : List UInt8 → List Nat} (h : Places w b pb L) (hp : pb' = pb ∨ ∃ g, pb' = some g ∧ w.heap.size ≤ g) : Places w b pb' L := by
  rcases hp with rfl | ⟨g, rfl, hg⟩
  · exact h
  · obtain ⟨f, hM, hf, hd⟩ := h
    refine ⟨f, hM, fun k => ?_, hd⟩
    rcases hf k with h1 | ⟨v, h1, h2, h3, h4, h5⟩
    · exact .inl h1
    · refine .inr ⟨v, h1, h2, h3, h4, fun e => ?_⟩
      obtain ⟨g', e', hlt⟩ := h3.lt
      rw [e'] at e; injection e with e; omega
theorem Places.grows {w w' : World} {b : Nat} {pb : Option Nat} {L : List UInt8 → List Nat} (h : Places w b pb L) (hg : Grows w w') : Places w' b pb L := by
  obtain ⟨f, hM, hf, hd⟩ := h
  have hgn : w.grownBy w' none := grows_by hg none
  refine ⟨f, hM.kept hgn (by simp), fun k => ?_, hd⟩
  rcases hf k with h1 | ⟨v, h1, h2, h3, h4, h5⟩
  · exact .inl h1
  · refine .inr ⟨v, h1, h2, h3.kept hgn ?_, h4, h5⟩
    obtain ⟨g', e', hlt⟩ := h3.lt
    rw [e']; simp

set_option maxRecDepth 20000 in
set_option maxHeartbeats 1000000 in
theorem at_any (b : Nat) (pb : Option Nat) (L : List UInt8 → List Nat) (A : Option Addr) (n c i : Nat) (bs : List UInt8) (w : World) (hP : Places w b pb L) (hs : ∀ k, k.length ≠ 4 → L k = []) (hl : bs.length = n) (hr : Lies w w.heap.size A (bs.map bv)) (hc : n ≤ c)
    (hi : i < n) (hn : n ≤ 1000000000000) :
    Calls Tryd.prog 123 #[.map (some b), .slice A n c, iv i] w fun e w' => ∃ A2 c2, e = .returned (.slice A2 (L ((bs.drop i).take 4)).length c2) ∧ Lies w w.heap.size A2 ((L ((bs.drop i).take 4)).map iv) ∧ w' = w := by
  by_cases h4 : i + 4 ≤ n
  · have hkl : ((bs.drop i).take 4).length = 4 := by rw [List.length_take, List.length_drop]; omega
    have hLK : Lies w w.heap.size (A.map (·.add i)) (((bs.drop i).take 4).map bv) := by
      rw [List.map_take, List.map_drop]; exact (hr.from_ i).take 4
    generalize (bs.drop i).take 4 = key at *
    obtain ⟨f, hM, hf, hd⟩ := hP
    have hget := hM.get hT_ hK_ hU_ hcU_ hE_ hkl
    have hld := load_lies (P := Tryd.prog) hK_ hKi_ hkl hLK
    obtain ⟨A2, c2, hv, hL2⟩ : ∃ A2 c2, (f key).getD (.slice none 0 0) = .slice A2 (L key).length c2 ∧ Lies w w.heap.size A2 ((L key).map iv) := by
      rcases hf key with ⟨h1, h2⟩ | ⟨v, h1, h2, h3, _⟩
      · exact ⟨none, 0, by rw [h1, h2]; rfl, by rw [h2]; exact Lies.empty⟩
      · obtain ⟨A2, c2, e, hL2⟩ := h3.lies
        exact ⟨A2, c2, by rw [h1]; exact e, hL2⟩
    rw [hv] at hget
    have HG := Lib.hid hget
    have HLD := Lib.hid hld
    have HL2 := Lib.hid hL2
    clear hget hld hL2 hv hf hd hM hLK
    have hci : ¬ c = i := by omega
    go_enter Tryd.func123, Tryd.ntmps123
    go_wp2_with (first
      | (with_reducible refine wpList_arrayAt rfl 212 (.tmp 17) rfl _ _ _ rfl (run_arrayAt (P := Tryd.prog) hK_ _ _ _ (by omega) _) ?_)
      | (with_reducible refine wpList_loads rfl 212 (.tmp 18) rfl _ rfl _ HLD.out ?_)
      | (with_reducible refine wpList_look rfl 178 (.tmp 12) (.tmp 19) rfl (.map (some b)) (dv key) _ rfl rfl HG.out ?_))
    go_ret
    exact ⟨A2, c2, rfl, HL2.out, rfl⟩
  · have hkl : ((bs.drop i).take 4).length ≠ 4 := by rw [List.length_take, List.length_drop]; omega
    rw [hs _ hkl]
    go_enter Tryd.func123, Tryd.ntmps123
    go_wp2
    go_ret
    exact ⟨none, 0, rfl, Lies.empty, rfl⟩

/-- One place more at a key. -/
def more (L : List UInt8 → List Nat) (key : List UInt8) (js : List Nat) : List UInt8 → List Nat := fun k => if k = key then js else L k
/-- Another value at a key. -/
theorem Places.upd_ {w w' : World} {b : Nat} {pb : Option Nat} {L : List UInt8 → List Nat} {f : List UInt8 → Option Value} {key : List UInt8} {v' : Value} {js : List Nat}
    (hf : ∀ k, (f k = none ∧ L k = []) ∨ ∃ v, f k = some v ∧ L k ≠ [] ∧ OffRow w v (L k) ∧ (∀ g, v.ownBlock = some g → b < g) ∧ v.ownBlock ≠ pb) (hd : ∀ k1 k2 v1 v2, k1 ≠ k2 → f k1 = some v1 → f k2 = some v2 → v1.ownBlock ≠ v2.ownBlock)
    (hM : MapAt w' b (upd f key (some v'))) (hj : js ≠ []) (hO : OffRow w' v' js) (hb : ∀ g, v'.ownBlock = some g → b < g) (hp : v'.ownBlock ≠ pb)
    (hfar : ∀ k v, k ≠ key → f k = some v → v.ownBlock ≠ v'.ownBlock) (hkeep : ∀ k v, k ≠ key → f k = some v → OffRow w v (L k) → OffRow w' v (L k)) : Places w' b pb (more L key js) := by
  refine ⟨_, hM, fun k => ?_, fun k1 k2 v1 v2 hne h1 h2 => ?_⟩
  · unfold upd more
    by_cases hk : k = key
    · rw [if_pos hk, if_pos hk]
      exact .inr ⟨v', rfl, hj, hO, hb, hp⟩
    · rw [if_neg hk, if_neg hk]
      rcases hf k with h1 | ⟨v, h1, h2, h3, h4, h5⟩
      · exact .inl h1
      · exact .inr ⟨v, h1, h2, hkeep k v hk h1 h3, h4, h5⟩
  · unfold upd at h1 h2
    by_cases e1 : k1 = key
    · rw [if_pos e1] at h1
      have e2 : k2 ≠ key := fun e => hne (e1.trans e.symm)
      rw [if_neg e2] at h2
      injection h1 with h1
      subst h1
      exact fun e => hfar k2 v2 e2 h2 e.symm
    · rw [if_neg e1] at h1
      by_cases e2 : k2 = key
      · rw [if_pos e2] at h2
        injection h2 with h2
        subst h2
        exact hfar k1 v1 e1 h1
      · rw [if_neg e2] at h2
        exact hd k1 k2 v1 v2 hne h1 h2

theorem keep_core (w : World) (b : Nat) (pb : Option Nat) (L : List UInt8 → List Nat) (key : List UInt8) (i : Nat) (hP : Places w b pb L) (hk : key.length = 4) (hb : some b ≠ pb) (hpl : ∀ g, pb = some g → g < w.heap.size) (hl : (L key).length ≤ 1000000000000) :
    ∃ v born w3 v' w4 w5, (Instr.mapEntry 178 (.map (some b)) (dv key)).run Tryd.prog (w.alloc (.cells #[iv i] 3)) = .ok (.tuple #[v, born]) w3 ∧
      (Builtin.append_ #[181, 181] 181 #[v, .slice (some ⟨w.heap.size, 0, none⟩) 1 1]).run Tryd.prog w3 = .ok v' w4 ∧ (Instr.entryStore 178 (.map (some b)) born v').run Tryd.prog w4 = .ok () w5 ∧
      Places w5 b pb (more L key (L key ++ [i])) ∧ Below b w w5 ∧ ∀ g, pb = some g → w5.heap[g]? = w.heap[g]? := by
  obtain ⟨i0, hi0, hz0, hz1, hz2⟩ := info_parts int_info
  obtain ⟨f, hM, hf, hd⟩ := hP
  have hbw := hM.lt
  have hM1 := hM.kept (World.grownBy_alloc w (.cells #[iv i] 3) none) (by simp)
  obtain ⟨w3, born, r1, g3, s3, back⟩ := hM1.entry hT_ hK_ hU_ hcU_ hE_ hk
  rw [World.size_alloc] at s3
  have hx : w3.cell? ((⟨w.heap.size, 0, none⟩ : Addr).add 0) = some (iv i) := by
    rw [add_plain]
    refine (World.cell?_of_block (g3.block w.heap.size (by rw [World.size_alloc]; omega) (by simp; omega))).trans ?_
    rw [cell_of_row _ _ _ _ 3 (0, 0) (heap_alloc_new w _)]; rfl
  -- what is kept up to w3
  have keep3 : ∀ v js, OffRow w v js → (∀ g, v.ownBlock = some g → b < g) → OffRow w3 v js := fun v js hO hg => by
    obtain ⟨g, e, hlt⟩ := hO.lt
    refine (hO.kept (World.grownBy_alloc w _ none) (by rw [e]; simp)).kept g3 ?_
    rw [e]
    have := hg g e
    simp; omega
  have hv : ((f key).getD (.slice none 0 0) = .slice none 0 0 ∧ L key = []) ∨ OffRow w3 ((f key).getD (.slice none 0 0)) (L key) := by
    rcases hf key with ⟨h1, h2⟩ | ⟨v, h1, h2, h3, h4, h5⟩
    · exact .inl ⟨by rw [h1]; rfl, h2⟩
    · exact .inr (by rw [h1]; exact keep3 v _ h3 h4)
  obtain ⟨v', w4, r2, hO4, hW4⟩ := off_append (P := Tryd.prog) 181 181 3 i0 Tryd.underlying181 hi0 hz0 hz1 hz2 hv ⟨w.heap.size, 0, none⟩ i hx hl
  have hob : ∀ g, ((f key).getD (.slice none 0 0)).ownBlock = some g → b < g ∧ pb ≠ some g ∧ g < w.heap.size := fun g hg => by
    rcases hf key with ⟨h1, h2⟩ | ⟨v, h1, h2, h3, h4, h5⟩
    · rw [h1] at hg; simp [Value.ownBlock] at hg
    · rw [h1] at hg
      obtain ⟨g', e', hlt⟩ := h3.lt
      have hg' : v.ownBlock = some g := hg
      rw [e'] at hg'; injection hg' with hg'; subst hg'
      exact ⟨h4 _ e', fun e => h5 (e'.trans e.symm), hlt⟩
  have hne4 : some b ≠ ((f key).getD (.slice none 0 0)).ownBlock := fun e => by have := (hob b e.symm).1; omega
  obtain ⟨w5, r3, hM5, g5, s5⟩ := back w4 _ v' hW4.grown hne4
  have hov : ∀ g, v'.ownBlock = some g → b < g ∧ pb ≠ some g := fun g hg => by
    rcases hW4.at_ with e | ⟨g', e, hge⟩
    · rw [e] at hg; exact ⟨(hob g hg).1, (hob g hg).2.1⟩
    · rw [e] at hg; injection hg with hg; subst hg
      exact ⟨by omega, fun e => by have := hpl _ e; omega⟩
  have keep5 : ∀ v js, OffRow w4 v js → (∀ g, v.ownBlock = some g → b < g) → OffRow w5 v js := fun v js hO hg => by
    obtain ⟨g, e, hlt⟩ := hO.lt
    refine hO.kept g5 ?_
    rw [e]
    have := hg g e
    simp; omega
  refine ⟨_, born, w3, v', w4, w5, r1, r2, r3, ?_, ?_, fun g hg => ?_⟩
  · refine Places.upd_ hf hd hM5 (by simp) (keep5 v' _ hO4 fun g hg => (hov g hg).1) (fun g hg => (hov g hg).1) ?_ ?_ ?_
    · obtain ⟨g, e, _⟩ := hO4.lt
      rw [e]
      exact fun e' => (hov g e).2 e'.symm
    · intro k v hne h1
      rcases hf k with ⟨h2, _⟩ | ⟨v2, h2, h3, h4, h5, h6⟩
      · rw [h1] at h2; cases h2
      · rw [h1] at h2; injection h2 with h2; subst h2
        obtain ⟨g, e, hlt⟩ := h4.lt
        rcases hW4.at_ with e1 | ⟨g', e1, hge⟩
        · rw [e1]
          rcases hf key with ⟨h7, _⟩ | ⟨v3, h7, h8, h9, _⟩
          · rw [h7, e]; simp [Value.ownBlock]
          · rw [h7]; exact hd k key v v3 hne h1 h7
        · rw [e1, e]; simp; omega
    · intro k v hne h1 hO
      rcases hf k with ⟨h2, _⟩ | ⟨v2, h2, h3, h4, h5, h6⟩
      · rw [h1] at h2; cases h2
      · rw [h1] at h2; injection h2 with h2; subst h2
        refine keep5 v _ ((keep3 v _ hO h5).kept hW4.grown ?_) h5
        rcases hf key with ⟨h7, _⟩ | ⟨v3, h7, h8, h9, _⟩
        · obtain ⟨g, e, hlt⟩ := hO.lt
          rw [h7, e]; simp [Value.ownBlock]
        · rw [h7]; exact hd k key v v3 hne h1 h7
  · refine (((Below.refl b w).alloc (by omega) _).grown g3 (by rw [World.size_alloc]; omega) (by simp)).trans ?_
    refine ((Below.refl b w3).grown hW4.grown (by omega) (fun g hg => by have := (hob g hg).1; omega)).trans ?_
    exact (Below.refl b w4).grown g5 (by have := hW4.grown.size; omega) (by simp)
  · have hgl := hpl g hg
    have hgb : some g ≠ some b := fun e => hb (by rw [← e, hg])
    refine (g5.block g (by have := hW4.grown.size; omega) hgb).trans ((hW4.grown.block g (by omega) fun e => ?_).trans ((g3.block g (by rw [World.size_alloc]; omega) hgb).trans (Below.heap_alloc w _ g hgl)))
    exact (hob g e.symm).2.1 hg

theorem forget_core (w : World) (b : Nat) (pb : Option Nat) (L : List UInt8 → List Nat) (key : List UInt8) (j : Nat) (js : List Nat) (hP : Places w b pb L) (hk : key.length = 4) (hb : some b ≠ pb) (hL : L key = j :: js) :
    ∃ v, (Instr.lookup 178 (.map (some b)) (dv key) false).run Tryd.prog w = .ok v w ∧ (∃ A c, v = .slice A (js.length + 1) c) ∧
      (js ≠ [] → ∃ v1, (∀ u, (Instr.sliceAt 181 v (some (.int .i64 1)) none none).run Tryd.prog u = .ok v1 u) ∧ ∀ u, Grows w u → ∃ w5, (Instr.mapUpdate 178 (.map (some b)) (dv key) v1).run Tryd.prog u = .ok () w5 ∧
        Places w5 b pb (more L key js) ∧ u.grownBy w5 (some b)) ∧
      (js = [] → ∀ u, Grows w u → ∃ w5, (Builtin.delete_ #[178, 212] 0 #[.map (some b), dv key]).run Tryd.prog u = .ok (.tuple #[]) w5 ∧ Places w5 b pb (more L key js) ∧ u.grownBy w5 (some b)) := by
  obtain ⟨f, hM, hf, hd⟩ := hP
  have hget := hM.get hT_ hK_ hU_ hcU_ hE_ hk
  rcases hf key with ⟨h1, h2⟩ | ⟨v, h1, h2, h3, h4, h5⟩
  · rw [hL] at h2; cases h2
  rw [h1] at hget
  rw [hL] at h3
  have hin : f key ≠ none := by rw [h1]; simp
  refine ⟨v, hget, ?_, fun hj => ?_, fun hj u hu => ?_⟩
  · obtain ⟨A, c, e, _⟩ := h3.lies
    exact ⟨A, c, e⟩
  · obtain ⟨v1, hr, hO, hob⟩ := off_cut (P := Tryd.prog) 181 3 Tryd.underlying181 int_one h3 hj .i64
    refine ⟨v1, hr, fun u hu => ?_⟩
    have hgn := grows_by hu none
    obtain ⟨w5, r5, hM5, g5, s5⟩ := (hM.kept hgn (by simp)).put hT_ hK_ hU_ hcU_ hE_ hk hin v1
    have keep5 : ∀ v js, OffRow w v js → (∀ g, v.ownBlock = some g → b < g) → OffRow w5 v js := fun v js hO hg => by
      obtain ⟨g, e, hlt⟩ := hO.lt
      refine (hO.kept hgn (by rw [e]; simp)).kept g5 ?_
      rw [e]
      have := hg g e
      simp; omega
    refine ⟨w5, r5, ?_, g5⟩
    refine Places.upd_ hf hd hM5 hj (keep5 v1 _ hO fun g hg => h4 g (hob ▸ hg)) (fun g hg => h4 g (hob ▸ hg)) (hob ▸ h5) ?_ ?_
    · intro k v2 hne h6
      rw [hob]
      exact hd k key v2 v hne h6 h1
    · intro k v2 hne h6 hO2
      rcases hf k with ⟨h7, _⟩ | ⟨v3, h7, h8, h9, h10, h11⟩
      · rw [h6] at h7; cases h7
      · rw [h6] at h7; injection h7 with h7; subst h7
        exact keep5 v2 _ hO2 h10
  · have hgn := grows_by hu none
    obtain ⟨w5, r5, hM5, g5, s5⟩ := (hM.kept hgn (by simp)).del hT_ hK_ hU_ hcU_ hE_ hk hin 0 212
    refine ⟨w5, r5, ⟨_, hM5, fun k => ?_, fun k1 k2 v1 v2 hne e1 e2 => ?_⟩, g5⟩
    · unfold upd more
      by_cases hk' : k = key
      · rw [if_pos hk', if_pos hk']; exact .inl ⟨rfl, hj⟩
      · rw [if_neg hk', if_neg hk']
        rcases hf k with h7 | ⟨v3, h7, h8, h9, h10, h11⟩
        · exact .inl h7
        · obtain ⟨g, e, hlt⟩ := h9.lt
          refine .inr ⟨v3, h7, h8, (h9.kept hgn (by rw [e]; simp)).kept g5 ?_, h10, h11⟩
          rw [e]
          have := h10 g e
          simp; omega
    · unfold upd at e1 e2
      by_cases hk1 : k1 = key
      · rw [if_pos hk1] at e1; cases e1
      · by_cases hk2 : k2 = key
        · rw [if_pos hk2] at e2; cases e2
        · rw [if_neg hk1] at e1; rw [if_neg hk2] at e2
          exact hd k1 k2 v1 v2 hne e1 e2

/-- Another block than the map's and the rows' is as it was. -/
def Kept (b : Nat) (pb : Option Nat) (w w' : World) : Prop := Below b w w' ∧ ∀ g, pb = some g → w'.heap[g]? = w.heap[g]?

set_option maxRecDepth 20000 in
set_option maxHeartbeats 1000000 in
theorem keep_any (b : Nat) (pb : Option Nat) (A : Option Addr) (n c i lo m : Nat) (bs : List UInt8) (w : World) (hP : Places w b pb (win bs lo m)) (hlm : lo + m = i) (hb : some b ≠ pb) (hpl : ∀ g, pb = some g → g < w.heap.size) (hbw : b < w.heap.size) (hl : bs.length = n)
    (hr : Lies w w.heap.size A (bs.map bv)) (hc : n ≤ c) (hi : i < n) (hn : n ≤ 1000000000000) :
    Calls Tryd.prog 126 #[.map (some b), .slice A n c, iv i] w fun e w' => (∃ v, e = .returned v) ∧ Places w' b pb (win bs lo (m + 1)) ∧ Kept b pb w w' := by
  by_cases h4 : i + 4 ≤ n
  · have hkl : ((bs.drop i).take 4).length = 4 := by rw [List.length_take, List.length_drop]; omega
    have hLK : Lies w w.heap.size (A.map (·.add i)) (((bs.drop i).take 4).map bv) := by
      rw [List.map_take, List.map_drop]; exact (hr.from_ i).take 4
    have HW : Hid (win bs lo (m + 1) = more (win bs lo m) ((bs.drop i).take 4) (win bs lo m ((bs.drop i).take 4) ++ [i])) := by
      show _ = _
      funext k
      rw [win_more, hlm]
      unfold more
      by_cases hk : k = (bs.drop i).take 4
      · rw [if_pos hk, if_pos ⟨hk.symm, by rw [hk]; exact hkl⟩, hk]
      · rw [if_neg hk, if_neg (fun h => hk h.1.symm)]
    have hwl := win_len bs lo m ((bs.drop i).take 4)
    generalize (bs.drop i).take 4 = key at *
    have hld := load_lies (P := Tryd.prog) hK_ hKi_ hkl hLK
    have HLD := Lib.hid hld
    have HK := Lib.hid hkl
    have hm0 : m ≤ 1000000000000 := by omega
    clear hld hLK hkl
    have hbox := Has.new w 212 [bv 0, bv 0, bv 0, bv 0]
    have hci : ¬ c = i := by omega
    have HP := Lib.hid hP
    clear hP
    generalize win bs lo m = L at *
    go_enter Tryd.func126, Tryd.ntmps126
    go_wp2_with (first
      | (with_reducible refine wpList_arrayAt rfl 212 (.tmp 16) rfl _ _ _ rfl (run_arrayAt (P := Tryd.prog) hK_ _ _ _ (by omega) _) ?_)
      | (with_reducible refine wpList_loads rfl 212 (.tmp 17) rfl _ rfl _ HLD.out ?_)
      | (refine wpList_storev rfl 212 (.tmp 6) (.tmp 18) rfl w.heap.size [bv 0, bv 0, bv 0, bv 0] (key.map bv) 4 rfl rfl hbox rfl (by rw [List.length_map]; exact HK.out) hKi_ (bv_one _) ?_; intro w1 hbox1 hbel1; have hG1 : Grows w w1 := hbel1 w.heap.size w (Nat.le_refl _) (grows_alloc _ _); have hld1 := hbox1.load hK_ rfl (by rw [List.length_map, HK.out]; exact hKi_); obtain ⟨v, born, w3, v', w4, w5, r1, r2, r3, hP5, hB5, hpb5⟩ := keep_core w1 b pb L key i (HP.out.grows hG1) HK.out hb (fun g hg => Nat.lt_of_lt_of_le (hpl g hg) hG1.size) (by omega))
      | (with_reducible refine wpList_loads rfl 212 (.tmp 6) rfl _ rfl _ hld1 ?_)
      | (with_reducible refine wpList_mapEntry rfl 178 (.tmp 19) (.tmp 20) rfl (.map (some b)) (dv key) _ w3 rfl rfl r1 ?_)
      | (at_builtin; with_reducible refine wpList_appendv rfl (.tmp 21) (.tmp 23) 181 rfl v (.slice (some ⟨w1.heap.size, 0, none⟩) 1 1) v' w4 rfl rfl r2 ?_)
      | (with_reducible refine wpList_entryStore rfl 178 (.tmp 19) (.tmp 26) (.tmp 25) rfl (.map (some b)) born v' w5 rfl rfl rfl r3 ?_))
    go_end0
    refine ⟨⟨_, rfl⟩, ?_, ?_, fun g hg => ?_⟩
    · rw [HW.out]; exact hP5
    · exact Below.trans (hG1.mono (by omega)) hB5
    · exact (hpb5 g hg).trans (hG1.block g (hpl g hg))
  · have HW : Hid (win bs lo (m + 1) = win bs lo m) := by
      show _ = _
      funext k
      rw [win_more, hlm, if_neg]
      rintro ⟨h1, h2⟩
      rw [← h1, List.length_take, List.length_drop] at h2
      omega
    go_enter Tryd.func126, Tryd.ntmps126
    go_wp2
    go_end0
    refine ⟨⟨_, rfl⟩, ?_, Below.refl _ _, fun g hg => rfl⟩
    rw [HW.out]; exact hP

set_option maxRecDepth 20000 in
set_option maxHeartbeats 1000000 in
theorem forget_none (b : Nat) (A : Option Addr) (n c : Nat) (z : Int) (w : World) (hz : z < 0) :
    Calls Tryd.prog 127 #[.map (some b), .slice A n c, .int .i64 z] w fun e w' => (∃ v, e = .returned v) ∧ w' = w := by
  go_enter Tryd.func127, Tryd.ntmps127
  go_wp2
  refine bodyPost_ret (results_none rfl _ _ _) rfl ?_
  exact ⟨⟨_, rfl⟩, rfl⟩

set_option maxRecDepth 20000 in
set_option maxHeartbeats 1000000 in
theorem forget_any (b : Nat) (pb : Option Nat) (A : Option Addr) (n c lo m : Nat) (bs : List UInt8) (w : World) (hP : Places w b pb (win bs lo (m + 1))) (hb : some b ≠ pb) (hpl : ∀ g, pb = some g → g < w.heap.size) (hbw : b < w.heap.size) (hl : bs.length = n)
    (hr : Lies w w.heap.size A (bs.map bv)) (hc : n ≤ c) (h4 : lo + 4 ≤ n) (hn : n ≤ 1000000000000) (hm : m ≤ 1000000000000) :
    Calls Tryd.prog 127 #[.map (some b), .slice A n c, iv lo] w fun e w' => (∃ v, e = .returned v) ∧ Places w' b pb (win bs (lo + 1) m) ∧ Kept b pb w w' := by
  have hkl : ((bs.drop lo).take 4).length = 4 := by rw [List.length_take, List.length_drop]; omega
  have hLK : Lies w w.heap.size (A.map (·.add lo)) (((bs.drop lo).take 4).map bv) := by
    rw [List.map_take, List.map_drop]; exact (hr.from_ lo).take 4
  have HW : Hid (win bs (lo + 1) m = more (win bs lo (m + 1)) ((bs.drop lo).take 4) (win bs (lo + 1) m ((bs.drop lo).take 4))) := by
    show _ = _
    funext k
    unfold more
    by_cases hk : k = (bs.drop lo).take 4
    · rw [if_pos hk, hk]
    · rw [if_neg hk, win_less, if_neg (fun h => hk h.1.symm)]
  have hwl := win_len bs (lo + 1) m ((bs.drop lo).take 4)
  have HLk := Lib.hid (show win bs lo (m + 1) ((bs.drop lo).take 4) = lo :: win bs (lo + 1) m ((bs.drop lo).take 4) by rw [win_less, if_pos ⟨rfl, hkl⟩])
  generalize (bs.drop lo).take 4 = key at *
  have hld := load_lies (P := Tryd.prog) hK_ hKi_ hkl hLK
  have HLD := Lib.hid hld
  have HK := Lib.hid hkl
  clear hld hLK hkl
  have hbox := Has.new w 212 [bv 0, bv 0, bv 0, bv 0]
  have hci : ¬ c = lo := by omega
  have HP := Lib.hid hP
  clear hP
  generalize win bs lo (m + 1) = L at *
  generalize win bs (lo + 1) m key = js at *
  by_cases hj : js = []
  · go_enter Tryd.func127, Tryd.ntmps127
    go_wp2_with (first
      | (with_reducible refine wpList_arrayAt rfl 212 (.tmp 14) rfl _ _ _ rfl (run_arrayAt (P := Tryd.prog) hK_ _ _ _ (by omega) _) ?_)
      | (with_reducible refine wpList_loads rfl 212 (.tmp 15) rfl _ rfl _ HLD.out ?_)
      | (refine wpList_storev rfl 212 (.tmp 6) (.tmp 16) rfl w.heap.size [bv 0, bv 0, bv 0, bv 0] (key.map bv) 4 rfl rfl hbox rfl (by rw [List.length_map]; exact HK.out) hKi_ (bv_one _) ?_; intro w1 hbox1 hbel1; have hG1 : Grows w w1 := hbel1 w.heap.size w (Nat.le_refl _) (grows_alloc _ _); have hld1 := hbox1.load hK_ rfl (by rw [List.length_map, HK.out]; exact hKi_); obtain ⟨v, r1, ⟨A1, c1, rfl⟩, _, hdel⟩ := forget_core w1 b pb L key lo js (HP.out.grows hG1) HK.out hb HLk.out; obtain ⟨w5, r5, hP5, g5⟩ := hdel hj w1 (Grows.refl _); subst hj)
      | (with_reducible refine wpList_loads rfl 212 (.tmp 6) rfl _ rfl _ hld1 ?_)
      | (with_reducible refine wpList_look rfl 178 (.tmp 17) (.tmp 18) rfl (.map (some b)) (dv key) _ rfl rfl r1 ?_)
      | (with_reducible refine wpList_deletev rfl (.tmp 27) (.tmp 28) 178 212 rfl (.map (some b)) (dv key) (.tuple #[]) w5 rfl rfl r5 ?_))
    go_end0
    refine ⟨⟨_, rfl⟩, ?_, ?_, fun g hg => ?_⟩
    · rw [HW.out]; exact hP5
    · exact Below.trans (hG1.mono (by omega)) ((Below.refl b w1).grown g5 (by have := hG1.size; omega) (by simp))
    · exact (g5.block g (by have := hG1.size; have := hpl g hg; omega) (fun e => hb (by rw [← e, hg]))).trans (hG1.block g (hpl g hg))
  · have hjl : 0 < js.length := List.length_pos_iff.2 hj
    go_enter Tryd.func127, Tryd.ntmps127
    go_wp2_with (first
      | (with_reducible refine wpList_arrayAt rfl 212 (.tmp 14) rfl _ _ _ rfl (run_arrayAt (P := Tryd.prog) hK_ _ _ _ (by omega) _) ?_)
      | (with_reducible refine wpList_loads rfl 212 (.tmp 15) rfl _ rfl _ HLD.out ?_)
      | (refine wpList_storev rfl 212 (.tmp 6) (.tmp 16) rfl w.heap.size [bv 0, bv 0, bv 0, bv 0] (key.map bv) 4 rfl rfl hbox rfl (by rw [List.length_map]; exact HK.out) hKi_ (bv_one _) ?_; intro w1 hbox1 hbel1; have hG1 : Grows w w1 := hbel1 w.heap.size w (Nat.le_refl _) (grows_alloc _ _); have hld1 := hbox1.load hK_ rfl (by rw [List.length_map, HK.out]; exact hKi_); obtain ⟨v, r1, ⟨A1, c1, rfl⟩, hput, _⟩ := forget_core w1 b pb L key lo js (HP.out.grows hG1) HK.out hb HLk.out; obtain ⟨v1, rcut, hput⟩ := hput hj)
      | (with_reducible refine wpList_loads rfl 212 (.tmp 6) rfl _ rfl _ hld1 ?_)
      | (with_reducible refine wpList_look rfl 178 (.tmp 17) (.tmp 18) rfl (.map (some b)) (dv key) _ rfl rfl r1 ?_))
    have ldk : ∀ u, Grows w1.drew u → (Instr.loadAt 212 (.pointer (some ⟨w.heap.size, 0, none⟩))).run Tryd.prog u = .ok (dv key) u := fun u hu =>
      (hbox1.later (Grows.trans (Grows.refl w1).drew hu)).load hK_ rfl (by rw [List.length_map, HK.out]; exact hKi_)
    clear hld1
    have hO := Grows.refl w1.drew
    refine wp_region_ord 4 [(0, true), (1, true), (2, true), (3, true)] (by kernel_rfl) (by kernel_rfl) ?_
    repeat (first | (refine ord_load hO _ _ (by simp only [List.getElem?_cons_succ, List.getElem?_cons_zero]; rfl) (by rfl) 212 (.tmp 6) (by rfl) _ (by rfl) ldk ?_; try simp only [Act.put, List.setIfInBounds_toArray, List.set_cons_zero, List.set_cons_succ]) | (refine ord_cut hO _ ?_ (by simp only [List.getElem?_cons_succ, List.getElem?_cons_zero]; rfl) (by rfl) 181 (.tmp 25) (some (.const (.int .i64 1))) none none (by rfl) ?_ ?_; rotate_left; (· (exact rcut)); try simp only [Act.put, List.setIfInBounds_toArray, List.set_cons_zero, List.set_cons_succ]) | (refine ord_take hO _ ?_ (by simp only [List.getElem?_cons_succ, List.getElem?_cons_zero]; rfl) (by rfl) ?_ ?_; rotate_left; (· (intro u hu0 hu; (try go_simp); (try with_reducible rfl))); try simp only [Act.put, List.setIfInBounds_toArray, List.set_cons_zero, List.set_cons_succ]) | (refine ord_skip _ (by simp only [List.getElem?_cons_succ, List.getElem?_cons_zero]; rfl) (by rfl) ?_; try simp only [Act.put, List.setIfInBounds_toArray, List.set_cons_zero, List.set_cons_succ]))
    clear hO ldk
    (refine ord_done (fun u hu => ?_); simp only [List.drop_succ_cons, List.drop_zero])
    have hgu := Grows.trans (Grows.refl w1).drew hu
    obtain ⟨w5, r5, hP5, g5⟩ := hput u hgu
    clear hput
    go_wp2_with (with_reducible refine wpList_mapPut rfl 178 (.tmp 23) (.tmp 24) (.tmp 26) rfl (.map (some b)) (dv key) v1 w5 rfl rfl rfl r5 ?_)
    refine NoPanic.normal ?_
    go_wp2_with fail
    go_end0
    have hG2 := Grows.trans hG1 hgu
    refine ⟨⟨_, rfl⟩, ?_, ?_, fun g hg => ?_⟩
    · rw [HW.out]; exact hP5
    · exact Below.trans (hG2.mono (by omega)) ((Below.refl b u).grown g5 (by have := hG2.size; omega) (by simp))
    · exact (g5.block g (by have := hG2.size; have := hpl g hg; omega) (fun e => hb (by rw [← e, hg]))).trans (hG2.block g (hpl g hg))
end Go.Proofs.YtbcldknecdbemaaDoor
