/-
  Cuts of a slice whose elements have one cell (of no program): b[:m], b[m:], b[l:h], and what lies there.
-/
import Derived.Test.YtkgkkobdpgnicaaDoorCel
namespace Go.Proofs.YtkgkkobdpgnicaaDoor
open Go.RowKit
set_option linter.unusedVariables false
set_option linter.unusedSectionVars false

theorem add_zero_addr (a : Addr) : a.add 0 = a := by simp [Addr.add]
theorem add_add_addr (a : Addr) (i j : Nat) : (a.add i).add j = a.add (i + j) := by
  by_cases hi : i = 0 <;> by_cases hj : j = 0 <;> simp [Addr.add, hi, hj, Nat.add_assoc]
theorem map_add_zero (A : Option Addr) : A.map (·.add 0) = A := by cases A <;> simp [add_zero_addr]

theorem Lies.from_ {w : World} {B : Nat} {A : Option Addr} {vs : List Value} (h : Lies w B A vs) (m : Nat) : Lies w B (A.map (·.add m)) (vs.drop m) := fun j u hu => by
  rw [List.getElem?_drop] at hu
  obtain ⟨ad, rfl, hb, hc⟩ := h (m + j) u hu
  exact ⟨ad.add m, rfl, by rw [add_block]; exact hb, by rw [add_add_addr]; exact hc⟩

section
variable {P : Program} {t e : TypeId} (ht : P.underlying t = some (.slice e)) (hs : (P.info? e).map (·.size) = some 1) (A : Option Addr) (n c m : Nat) (k : IntKind)
include ht hs
theorem elem_of : P.elem t = e := by unfold Program.elem; simp [ht]
theorem size_of_elem (u : World) : (sizeOf (P.elem t)).run P u = .ok 1 u := by
  obtain ⟨i, hi, h1⟩ := Option.map_eq_some_iff.1 hs
  rw [elem_of ht hs]
  simp [sizeOf, typeInfo, hi, h1]
theorem run_cut_to (h : m ≤ c) (u : World) : (Instr.sliceAt t (.slice A n c) none (some (.int k (m : Int))) none).run P u = .ok (.slice A m c) u := by
  have ht' : P.underlying t = some (.slice (P.elem t)) := by rw [elem_of ht hs]; exact ht
  rw [run_sliceAt_slice u t _ _ _ _ ht', run_slice_h u t A n c ht' k m (by omega) (by omega), size_of_elem ht hs]
  simp [Result.andThen, sliced, map_add_zero]
theorem run_cut_from (h : m ≤ n) (hc : m < c) (u : World) : (Instr.sliceAt t (.slice A n c) (some (.int k (m : Int))) none none).run P u = .ok (.slice (A.map (·.add m)) (n - m) (c - m)) u := by
  have ht' : P.underlying t = some (.slice (P.elem t)) := by rw [elem_of ht hs]; exact ht
  rw [run_sliceAt_slice u t _ _ _ _ ht', run_slice_l u t A n c ht' k m (by omega) (by omega), size_of_elem ht hs]
  simp [Result.andThen, sliced, show ¬ c = m by omega]
end

/-- A cut, as one operation of a region that draws its order. -/
theorem exec_slice {P : Program} {o : Oper} {a : Act} {u : World} {t : TypeId} {x : Operand} {lo hi mx : Option Operand} {v : Value} (ho : o.op = .slice t x lo hi mx)
    (h : (Instr.sliceAt t (a.eval x) (lo.map a.eval) (hi.map a.eval) (mx.map a.eval)).run P u = .ok v u) : (execOp a.eval o).run P u = .ok (.value v) u := by
  unfold execOp
  simp only [ho, Sem.run_bind, h, Result.andThen_ok, Sem.run_pure]
theorem ord_cut {P : Program} {Q : Exit → Act → World → Prop} {l : List Oper} {E : Act → World → Prop} {w0 w : World} {i : Nat} {s : List (Nat × Bool)} {a : Act} (h0 : Grows w0 w) (o : Oper) (v : Value) (ho : l[i]? = some o)
    (hw : Region.wanted o (yielded l.toArray a.tmps) = true) (t : TypeId) (x : Operand) (lo hi mx : Option Operand) (hop : o.op = .slice t x lo hi mx)
    (hy : ∀ u, (Instr.sliceAt t (a.eval x) (lo.map a.eval) (hi.map a.eval) (mx.map a.eval)).run P u = .ok v u)
    (h : wpOrd P l.toArray Q E s (a.put o.dst v) w) : wpOrd P l.toArray Q E ((i, true) :: s) a w :=
  ord_take h0 o v ho hw (fun u hu _ => exec_slice hop (hy u)) h
theorem wpList_cut {P : Program} {w : World} {ops : Array Oper} {rest : List Oper} {o : Oper} {a : Act} {Q : Exit → Act → World → Prop} (hgd : o.guard = none) (t : TypeId) (x : Operand) (lo hi mx : Option Operand) (hop : o.op = .slice t x lo hi mx)
    (v : Value) (hy : (Instr.sliceAt t (a.eval x) (lo.map a.eval) (hi.map a.eval) (mx.map a.eval)).run P w = .ok v w) (h : wpList P ops Q rest (a.put o.dst v) w) : wpList P ops Q (o :: rest) a w := by
  refine wpList_plain hgd fun K hK => ?_
  unfold Oper.wp
  rw [exec_slice hop hy]
  exact hK _ _ h
end Go.Proofs.YtkgkkobdpgnicaaDoor
