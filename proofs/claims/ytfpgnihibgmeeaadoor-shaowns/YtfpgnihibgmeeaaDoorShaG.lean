/-
  Contracts of sha's State: New, put, Write, Clone, Len, Sum, and of sha.Sum and sha.digest. Conditions: the table keys holds the document's numbers; the state lies in a block of its own.
-/
import Derived.Test.YtfpgnihibgmeeaaDoorShaF
import Derived.Maps.AppendAt
import Derived.Maps.Range
import Derived.Deep.AppendLies
namespace Go.Proofs.YtfpgnihibgmeeaaDoor
open Go.RowKit
set_option linter.unusedVariables false

/-- Nothing that was there has turned but block b. -/
abbrev But (b : Nat) (w w' : World) : Prop := w.grownBy w' (some b)
section
variable {b b' : Nat} {w w' w'' : World} {vs : List Value}
theorem But.refl (b : Nat) (w : World) : But b w w := World.grownBy.refl w _
theorem But.of_grows (h : Grows w w') : But b w w' := ⟨h.os, h.tape, h.output, h.size, fun i hi _ => h.block i hi⟩
theorem But.of_set (w : World) (b o : Nat) (u : Value) : But b w (w.setCell ⟨b, o, none⟩ u) :=
  ⟨rfl, rfl, rfl, by simp [World.setCell], fun i hi hne => Below.heap_setCell w _ u i (fun e => hne (by rw [e]))⟩
theorem But.setCells (b : Nat) : ∀ (vs : List Value) (o : Nat) (w : World), But b w (w.setCells b o vs)
  | [], _, w => But.refl b w
  | v :: r, o, w => World.grownBy.trans (But.of_set w b o v) (But.setCells b r (o + 1) _)
theorem Has.but (h : Has w b' vs) (hb : But b w w') (hne : b' ≠ b) : Has w' b' vs :=
  ⟨Nat.lt_of_lt_of_le h.lt hb.size, fun j u hu => hb.cell (h.cells j u hu) (fun e => hne (Option.some.inj e)), fun j => (hb.frozen_far ⟨b', j, none⟩ h.lt (fun e => hne (Option.some.inj e))).trans (h.free j)⟩
theorem Keys.but (h : Keys w) (hb : But b w w') (hne : 0 < b) : Keys w' := fun j u hu => hb.cell (h j u hu) (fun e => absurd (Option.some.inj e) (by show 0 ≠ b; omega))
theorem Lies.but {A : Option Addr} (h : Lies w b A vs) (hb : But b w w') : Lies w' b A vs := fun j u hu => by
  obtain ⟨ad, e, hlt, hc⟩ := h j u hu
  exact ⟨ad, e, hlt, hb.cell hc (fun e => by rw [add_block] at e; have := Option.some.inj e; omega)⟩
end

theorem state_size : (Tryd.prog.info? 48).map (·.size) = some 73 := by kernel_rfl
theorem v8_len (v : V8) : v.list.length = 8 := rfl
theorem uv8_len (v : V8) : (v.list.map uv).length = 8 := rfl

/-- The state in block b: the words v, the last bytes blk, n bytes in all. -/
structure St (w : World) (b : Nat) (v : V8) (blk : List UInt8) (n : Nat) : Prop where
  has : Has w b (v.list.map uv ++ (blk.map bv ++ [.int .i64 (n : Int)]))
  blen : blk.length = 64
section
variable {b n : Nat} {w w' : World} {v : V8} {blk : List UInt8}
theorem St.words (h : St w b v blk n) : w.rangeAt b 0 (v.list.map uv) := h.has.part 0 (fun j u hu => by
  rw [Nat.zero_add, List.getElem?_append_left (List.getElem?_eq_some_iff.1 hu).1]; exact hu)
theorem St.block (h : St w b v blk n) : w.rangeAt b 8 (blk.map bv) := h.has.part 8 (fun j u hu => by
  rw [List.getElem?_append_right (by rw [uv8_len]; omega), uv8_len, Nat.add_sub_cancel_left, List.getElem?_append_left (List.getElem?_eq_some_iff.1 hu).1]; exact hu)
theorem St.size (h : St w b v blk n) : w.cell? ⟨b, 72, none⟩ = some (.int .i64 (n : Int)) := h.has.cell (by
  rw [List.getElem?_append_right (by rw [uv8_len]; omega), uv8_len, List.getElem?_append_right (by rw [List.length_map, h.blen]; omega), List.length_map, h.blen]; rfl)
theorem St.setSize (h : St w b v blk n) (m : Nat) : St (w.setCell ⟨b, 72, none⟩ (.int .i64 (m : Int))) b v blk m := by
  refine ⟨?_, h.blen⟩
  have := h.has.set_ (k := 72) (by simp [v8_len, h.blen]) (.int .i64 (m : Int))
  rwa [List.set_append_right _ _ (by rw [uv8_len]; omega), uv8_len, List.set_append_right _ _ (by rw [List.length_map, h.blen]; omega), List.length_map, h.blen] at this
theorem St.setByte (h : St w b v blk n) (k : Nat) (hk : k < 64) (c : UInt8) : St (w.setCell ⟨b, 8 + k, none⟩ (bv c)) b v (blk.set k c) n := by
  refine ⟨?_, by rw [List.length_set]; exact h.blen⟩
  have := h.has.set_ (k := 8 + k) (by simp [v8_len, h.blen]; omega) (bv c)
  rwa [List.set_append_right _ _ (by rw [uv8_len]; omega), uv8_len, Nat.add_sub_cancel_left, List.set_append_left _ _ (by rw [List.length_map, h.blen]; exact hk), ← List.map_set] at this
theorem St.setWords (h : St w b v blk n) (v' : V8) : St (w.setCells b 0 (v'.list.map uv)) b v' blk n := by
  have ht : w.there b 0 (v'.list.map uv).length := by
    have := there_of h.words h.has.free
    rwa [uv8_len] at this
  refine ⟨⟨by rw [size_setCells]; exact h.has.lt, ?_, fun j => by rw [World.frozen?_setCells]; exact h.has.free j⟩, h.blen⟩
  intro j u hu
  rcases Nat.lt_or_ge j 8 with hj | hj
  · rw [List.getElem?_append_left (by rw [uv8_len]; exact hj)] at hu
    exact World.rangeAt_setCells_same w b 0 _ ht j u hu
  · have h1 : (v.list.map uv ++ (blk.map bv ++ [.int .i64 (n : Int)]))[j]? = some u := by
      rw [List.getElem?_append_right (by rw [uv8_len]; exact hj), uv8_len] at hu ⊢
      exact hu
    rw [World.cell?_setCells_out b _ 0 w ⟨b, 0 + j, none⟩ (fun _ _ => .inr (by rw [uv8_len]; show 0 + 8 ≤ 0 + j; omega))]
    exact h.has.cells j u h1
theorem St.later (h : St w b v blk n) (hg : Grows w w') : St w' b v blk n := ⟨h.has.later hg, h.blen⟩
theorem St.but {b' : Nat} (h : St w b v blk n) (hb : But b' w w') (hne : b ≠ b') : St w' b v blk n := ⟨h.has.but hb hne, h.blen⟩
end

/-- The state in block b holds the bytes l. -/
def Hold (w : World) (b : Nat) (l : List UInt8) : Prop := ∃ blk, St w b (through l (l.length / 64)) blk l.length ∧ blk.take (l.length % 64) = l.drop (64 * (l.length / 64))
theorem Hold.later {w w' : World} {b : Nat} {l : List UInt8} (h : Hold w b l) (hg : Grows w w') : Hold w' b l := h.imp fun _ ⟨h1, h2⟩ => ⟨h1.later hg, h2⟩
theorem Hold.but {w w' : World} {b b' : Nat} {l : List UInt8} (h : Hold w b l) (hb : But b' w w') (hne : b ≠ b') : Hold w' b l := h.imp fun _ ⟨h1, h2⟩ => ⟨h1.but hb hne, h2⟩

/-- The last byte fills the block. -/
theorem fill_full {l blk : List UInt8} {c : UInt8} (hb : blk.length = 64) (hp : blk.take (l.length % 64) = l.drop (64 * (l.length / 64))) (h : (l.length + 1) % 64 = 0) :
    through (l ++ [c]) ((l ++ [c]).length / 64) = mix (through l (l.length / 64)) (blk.set (l.length % 64) c) ∧ (l ++ [c]).length % 64 = 0 ∧ (l ++ [c]).drop (64 * ((l ++ [c]).length / 64)) = [] := by
  have e1 : (l ++ [c]).length = l.length + 1 := by simp
  have e2 : (l.length + 1) / 64 = l.length / 64 + 1 := by omega
  rw [e1, e2]
  refine ⟨?_, h, List.drop_of_length_le (by rw [e1]; omega)⟩
  rw [through, through_append l [c] _ (by omega)]
  congr 1
  have h63 : l.length % 64 = 63 := by omega
  rw [h63] at hp ⊢
  rw [List.drop_append_of_le_length (by omega), ← hp]
  apply List.ext_getElem?
  intro i
  rcases Nat.lt_or_ge i 63 with hi | hi
  · rw [List.getElem?_take, if_pos (by omega), List.getElem?_append_left (by simp [hb]; omega), List.getElem?_take, if_pos hi, List.getElem?_set_ne (by omega)]
  · rcases Nat.lt_or_ge 63 i with hi' | hi'
    · rw [List.getElem?_eq_none (by simp [hb]; omega), List.getElem?_eq_none (by simp [hb]; omega)]
    · obtain rfl : i = 63 := by omega
      rw [List.getElem?_take, if_pos (by omega), List.getElem?_append_right (by simp [hb]), List.getElem?_set_self (by omega)]
      simp [hb]
theorem fill_part {l blk : List UInt8} {c : UInt8} (hb : blk.length = 64) (hp : blk.take (l.length % 64) = l.drop (64 * (l.length / 64))) (h : (l.length + 1) % 64 ≠ 0) :
    through (l ++ [c]) ((l ++ [c]).length / 64) = through l (l.length / 64) ∧ (blk.set (l.length % 64) c).take ((l ++ [c]).length % 64) = (l ++ [c]).drop (64 * ((l ++ [c]).length / 64)) := by
  have e1 : (l ++ [c]).length = l.length + 1 := by simp
  have e2 : (l.length + 1) / 64 = l.length / 64 := by omega
  have e3 : (l.length + 1) % 64 = l.length % 64 + 1 := by omega
  rw [e1, e2, e3]
  refine ⟨through_append l [c] _ (by omega), ?_⟩
  rw [List.drop_append_of_le_length (by omega), ← hp, List.take_succ_eq_append_getElem (by rw [List.length_set, hb]; omega)]
  simp
  rw [List.take_set, List.set_eq_of_length_le (by simp; omega)]
end Go.Proofs.YtfpgnihibgmeeaaDoor
