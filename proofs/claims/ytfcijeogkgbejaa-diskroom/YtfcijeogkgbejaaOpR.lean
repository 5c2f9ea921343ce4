/-
  A slice of records that came in (of no program): each record's cells, and what each field is: an int, a text, bytes.
-/
import Derived.Test.YtfcijeogkgbejaaJ2
import Derived.Deep.Slices
import Derived.Deep.Fields
import Derived.ChangeSlices
namespace Go.Proofs.Ytfcijeogkgbejaa
open Go.RowKit
open Go.ChangeShapes Go.WideShapes
set_option linter.unusedVariables false
set_option maxRecDepth 20000

section
variable {H : Type} {enc : TypeId × Value → H} {P : Program} {w : World} {base : Nat} {spare : Nat → Bool} {held : Bool}

/-- What a field's value is, by its type. -/
def FieldIs (P : Program) (w : World) (t : TypeId) (v : Value) : Prop :=
  (∀ k, P.underlying t = some (.int k) → ∃ n, v = .int k n ∧ (Lit.int k n).wf = true) ∧
  (P.underlying t = some .string → ∃ s : ByteArray, v = .string s ∧ s.size ≤ maxLen) ∧
  (∀ e, P.underlying t = some (.slice e) → P.underlying e = some (.int .u8) → P.cellsOf e = 1 → ∃ (A : Option Addr) (n c : Nat) (bs : List UInt8), v = .slice A n c ∧ bs.length = n ∧ n ≤ c ∧ c ≤ maxLen ∧ Lies w w.heap.size A (bs.map bv))
theorem field_is {t : TypeId} {n : Nat} {v : Value} {y : DataW H × List MemPlace} (h : DataW.trod enc P w base spare held n t [v] = some y) : FieldIs P w t v := by
  refine ⟨fun k hk => ?_, fun hs => ?_, fun e hs he hc => ?_⟩
  · obtain ⟨m, h1, _, h2⟩ := DataW.trod_int hk h
    exact ⟨m, by simpa using h1, h2⟩
  · obtain ⟨s, h1, _, h2⟩ := DataW.trod_string hs h
    exact ⟨s, by simpa using h1, h2⟩
  · rcases open_ints hs he hc h with ⟨hcs, _⟩ | ⟨a, l, c, zs, hcs, _, hl, hm, hz, _, hcell, hwz⟩
    · simp at hcs
      exact ⟨none, 0, 0, [], hcs, rfl, Nat.le_refl _, Nat.zero_le _, Lies.empty⟩
    · simp at hcs
      -- the first so many of what is read
      refine ⟨some a, l, c, (zs.take l).map fun z => UInt8.ofNat z.toNat, hcs, by simp; split at hz <;> omega, hl, hm, fun j u hu => ?_⟩
      rw [List.map_map, List.getElem?_map, List.getElem?_take] at hu
      split at hu
      · rename_i hj
        have hjz : j < zs.length := by split at hz <;> omega
        rw [List.getElem?_eq_getElem hjz] at hu
        simp at hu
        have h1 := hcell j hjz
        have h2 := hwz _ (List.getElem_mem hjz)
        have h3 : 0 ≤ zs[j] ∧ zs[j] ≤ 255 := by simp [Lit.wf, IntKind.min, IntKind.max, IntKind.signed, IntKind.bits] at h2; omega
        refine ⟨a, rfl, ?_, ?_⟩
        · have := World.block_lt_of_cell? w _ h1
          rwa [add_block] at this
        · rw [h1, ← hu]
          simp [List.getElem?_eq_getElem hjz]
          omega
      · simp at hu

/-- The records of a slice. -/
theorem open_recs {t e : TypeId} {fs : Array Field} {fuel : Nat} {cs : List Value} {x : DataW H × List MemPlace} (ht : P.underlying t = some (.slice e)) (he : P.underlying e = some (.struct fs))
    (hone : Go.Deep.oneCellFields P fs = true) (ce : P.cellsOf e = fs.size) (hpos : 0 < fs.size) (h : DataW.trod enc P w base spare held fuel t cs = some x) :
    (cs = [.slice none 0 0]) ∨ ∃ (A : Option Addr) (len cap : Nat) (rs : List (List Value)), cs = [.slice A len cap] ∧ rs.length = len ∧ len ≤ cap ∧ cap ≤ maxLen ∧ Recs w A fs.size rs ∧
      ∀ r ∈ rs, ∀ (j : Nat) (f : Field), fs[j]? = some f → ∃ v, r[j]? = some v ∧ FieldIs P w f.type v := by
  rcases Go.Deep.open_slice ht h with ⟨h0, _⟩ | ⟨a, len, cap, m, n, D, Pl, rfl, hb, hl, hm, hmm, _, hx⟩
  · exact .inl h0
  right
  have hlm : len ≤ m := by rw [hmm]; split <;> omega
  have each : ∀ i, i < len → ∃ r : List Value, r.length = fs.size ∧ (∀ j u, r[j]? = some u → w.cell? (a.add (i * fs.size + j)) = some u) ∧ ∀ (j : Nat) (f : Field), fs[j]? = some f → ∃ v, r[j]? = some v ∧ FieldIs P w f.type v := fun i hi => by
    obtain ⟨cs', h1, h2⟩ := hx i (by omega)
    rw [ce] at h1
    obtain ⟨_, hlen, hcell⟩ := World.cells?_some h1
    obtain ⟨xs, k, _, _, _, hxl, hf⟩ := DataW.trod_struct he h2
    refine ⟨cs', hlen, fun j u hu => ?_, fun j f hj => ?_⟩
    · have hj : j < fs.size := by rw [← hlen]; exact (List.getElem?_eq_some_iff.1 hu).1
      have := hcell j hj
      rw [add_add_addr] at this
      rw [this, hu]
    · have hlt : j < fs.size := (Array.getElem?_eq_some_iff.1 hj).1
      obtain ⟨ho, hc1⟩ := Go.Deep.hone_of hone j f hj
      have g := hf j f hj
      rw [ho, hc1, Go.Deep.take1_drop cs' j undef (by omega), List.getElem?_eq_getElem (by omega)] at g
      refine ⟨cs'.getD j undef, ?_, field_is g⟩
      rw [List.getD_eq_getElem?_getD, List.getElem?_eq_getElem (show j < cs'.length by omega)]; rfl
  obtain ⟨R, hR⟩ := Go.Deep.choose_lt each
  refine ⟨some a, len, cap, (List.range len).map R, rfl, by simp, hl, hm, ⟨fun r hr => ?_, fun q u hu => ?_⟩, fun r hr => ?_⟩
  · obtain ⟨i, hi, rfl⟩ := List.mem_map.1 hr
    exact (hR i (List.mem_range.1 hi)).1
  · -- a cell of the flat row: of which record, and where
    have hlenR : ∀ r ∈ (List.range len).map R, r.length = fs.size := fun r hr => by
      obtain ⟨i, hi, rfl⟩ := List.mem_map.1 hr
      exact (hR i (List.mem_range.1 hi)).1
    have hq : q < len * fs.size := by
      have := (List.getElem?_eq_some_iff.1 hu).1
      rw [flat_len hlenR] at this
      simpa using this
    have hi : q / fs.size < len := Nat.div_lt_of_lt_mul (by rw [Nat.mul_comm]; exact hq)
    have hj : q % fs.size < fs.size := Nat.mod_lt _ hpos
    obtain ⟨g1, g2, _⟩ := hR (q / fs.size) hi
    obtain ⟨v, hv⟩ : ∃ v, (R (q / fs.size))[q % fs.size]? = some v := ⟨_, List.getElem?_eq_getElem (by omega)⟩
    have hfl := flat_at (rs := (List.range len).map R) (i := q / fs.size) (j := q % fs.size) hlenR (by rw [List.getElem?_map, List.getElem?_range hi]; rfl) hv
    have hqq : q / fs.size * fs.size + q % fs.size = q := by rw [Nat.mul_comm]; exact Nat.div_add_mod q fs.size
    rw [hqq, hu] at hfl
    injection hfl with hfl
    subst hfl
    have hc := g2 _ _ hv
    rw [hqq] at hc
    refine ⟨a, rfl, ?_, hc⟩
    have := World.block_lt_of_cell? w _ hc
    rwa [add_block] at this
  · obtain ⟨i, hi, rfl⟩ := List.mem_map.1 hr
    exact (hR i (List.mem_range.1 hi)).2.2
end
end Go.Proofs.Ytfcijeogkgbejaa
