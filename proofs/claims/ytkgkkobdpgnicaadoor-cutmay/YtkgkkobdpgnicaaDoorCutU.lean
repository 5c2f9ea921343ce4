/-
  Contracts of cut.Sizes, cut.Items at parameters that may not be; of cut.Items at no bytes.
-/
import Derived.Test.YtkgkkobdpgnicaaDoorCutF
import Derived.Test.YtkgkkobdpgnicaaDoorCutT
namespace Go.Proofs.YtkgkkobdpgnicaaDoor
open Go.RowKit Go.Shelf
set_option linter.unusedVariables false
attribute [local go_sem] Oper.semAt_some

/-- A return ahead of the loop: no mark. -/
theorem marks_none {P : Program} {fn : Func} {R : Ending → World → Prop} {tmps : Array Value} {W : World} {v : Value}
    (hr : ∀ w, (results fn tmps).run P w = .ok v w) (h : R (.returned v) W) : bodyPostM Fence.wide 0 P fn R .ret { tmps := tmps, defers := [] } W := by
  exact ⟨_, hr _, h⟩

set_option maxRecDepth 20000 in
theorem sizes_no (a b d : Int) (A : Option Addr) (n c : Nat) (w : World) (h : mayZ a b d = false) :
    Calls Tryd.prog 13 #[.slice A n c, pz a b d] w fun e w' => e = .returned (.tuple #[.slice none 0 0, .int .i64 1]) ∧ Grows w w' := by
  have hga := grows_alloc w (.cells [.int .i64 a, .int .i64 b, .int .i64 d].toArray 23)
  have M0 : Hid (∀ u, Calls Tryd.prog 16 #[.agg #[.int .i64 a, .int .i64 b, .int .i64 d]] u fun e w' => e = .returned (.bool false) ∧ Grows u w') := fun u => by
    have := may_any a b d u
    rwa [h] at this
  refine calls_marks Tryd.func13 rfl ?_
  simp only [Tryd.ntmps13, List.size_toArray, List.length_cons, List.length_nil, Nat.reduceAdd, Nat.reduceSub, Array.replicate_succ, Array.replicate_zero, List.push_toArray, List.append_toArray, List.nil_append, List.cons_append]
  unfold pz
  gi_wp2_with fail
  refine call_wide (M0.out _) ?_
  rintro e w1 ⟨rfl, hg1⟩
  gi_wp2_with fail
  exact marks_none (fun u => results_tmp2 rfl _ _ _) ⟨rfl, Grows.trans hga hg1⟩

set_option maxRecDepth 20000 in
theorem items_no (a b d : Int) (A : Option Addr) (n c : Nat) (w : World) (h : mayZ a b d = false) :
    Calls Tryd.prog 14 #[.slice A n c, pz a b d] w fun e w' => e = .returned (.tuple #[.slice none 0 0, .int .i64 1]) ∧ Grows w w' := by
  have hga := grows_alloc w (.cells [.int .i64 a, .int .i64 b, .int .i64 d].toArray 23)
  have M0 : Hid (∀ u, Calls Tryd.prog 16 #[.agg #[.int .i64 a, .int .i64 b, .int .i64 d]] u fun e w' => e = .returned (.bool false) ∧ Grows u w') := fun u => by
    have := may_any a b d u
    rwa [h] at this
  refine calls_marks Tryd.func14 rfl ?_
  simp only [Tryd.ntmps14, List.size_toArray, List.length_cons, List.length_nil, Nat.reduceAdd, Nat.reduceSub, Array.replicate_succ, Array.replicate_zero, List.push_toArray, List.append_toArray, List.nil_append, List.cons_append]
  unfold pz
  gi_wp2_with fail
  refine call_wide (M0.out _) ?_
  rintro e w1 ⟨rfl, hg1⟩
  gi_wp2_with fail
  exact marks_none (fun u => results_tmp2 rfl _ _ _) ⟨rfl, Grows.trans hga hg1⟩

set_option maxRecDepth 20000 in
set_option maxHeartbeats 2000000 in
/-- cut.Items of no bytes. -/
theorem items_nil (p : Prm) (hp : p.Ok) (w : World) (hs : Starts w) :
    Calls Tryd.prog 14 #[.slice none 0 0, pv p] w fun e w' => e = .returned (.tuple #[.slice none 0 0, .int .i64 0]) ∧ Grows w w' := by
  have hpz : pv p = .agg #[.int .i64 p.mn, .int .i64 p.av, .int .i64 p.mx] := rfl
  have M0 : Hid (∀ u, Calls Tryd.prog 16 #[.agg #[.int .i64 p.mn, .int .i64 p.av, .int .i64 p.mx]] u fun e w' => e = .returned (.bool true) ∧ Grows u w') := fun u => by
    have := may_any p.mn p.av p.mx u
    rwa [may_ok hp] at this
  have hb0 := Has.new w 23 [.int .i64 (p.mn : Int), .int .i64 (p.av : Int), .int .i64 (p.mx : Int)]
  have hg0 := grows_alloc w (.cells [.int .i64 (p.mn : Int), .int .i64 (p.av : Int), .int .i64 (p.mx : Int)].toArray 23)
  refine calls_marks Tryd.func14 rfl ?_
  simp only [Tryd.ntmps14, List.size_toArray, List.length_cons, List.length_nil, Nat.reduceAdd, Nat.reduceSub, Array.replicate_succ, Array.replicate_zero, List.push_toArray, List.append_toArray, List.nil_append, List.cons_append]
  rw [hpz]
  gi_wp2_with fail
  refine call_wide (M0.out _) ?_
  rintro e w1 ⟨rfl, hg1⟩
  have hb1 := hb0.later hg1
  have P0 := hb1.cell (k := 0) rfl
  have P1 := hb1.cell (k := 1) rfl
  have P2 := hb1.cell (k := 2) rfl
  have hgw1 := Grows.trans hg0 hg1
  have hx1 := Has.new w1 36 [.slice none 0 0]
  have hgx := grows_alloc w1 (.cells [.slice none 0 0].toArray 36)
  have hlt1 := hb1.lt
  clear hb0 hg0 hg1
  gi_wp2_with fail
  refine call_wide (chunks_any p none 0 0 _) ?_
  rintro e w3 ⟨bb, bp, rfl, hbb, hbp, hB, hP, hg3⟩
  have hx3 := hx1.later hg3
  have hgw3 := Grows.trans hgw1 (Grows.trans hgx hg3)
  have hb0s : w.heap.size ≤ w1.heap.size := hgw1.size
  have hxl := hx3.lt
  have hseq := chunks_seq p hp bb bp (fun k => k < w.heap.size) none 0 0 [] w3 hB hP rfl (Nat.le_refl _) (fun j u hu => by simp at hu) (fun k h => Nat.lt_of_lt_of_le h hgw3.size) (hs.later hgw3) (by decide)
  have hcn : chunksOf p [] = [] := by unfold chunksOf; rfl
  rw [hcn] at hseq
  rw [World.size_alloc] at hbb hbp
  generalize hx : w1.heap.size = bx at *
  have hbs : Starts w := hs
  have hz := hs.pos
  have hBl := hB.lt
  have hPl := hP.lt
  clear hgx hg3 hx1 hx
  gi_wp2_with fail
  refine wp_range (gf := 42) (lb := #[.pointer (some ⟨bp, 0, none⟩), .pointer (some ⟨bb, 0, none⟩)]) rfl (enters_of Tryd.func42 (by kernel_rfl) rfl) rfl hseq ?gInp (fun k => k = bx) ?gO (fun k h => by rw [h]; exact hxl)
    (fun m pre W => Has W bx [.slice none 0 0] ∧ Grows w W) (fun _ _ _ _ => False) ?gI (fun _ _ _ _ _ h _ => h) ?gh0
    (fun v => { tmps := #[.slice none 0 0, .agg #[.int .i64 p.mn, .int .i64 p.av, .int .i64 p.mx], undef, .pointer (some ⟨w.heap.size, 0, none⟩), .slice none 0 0, .int .i64 0, .pointer (some ⟨bx, 0, none⟩), v, .agg #[.int .i64 p.mn, .int .i64 p.av, .int .i64 p.mx], .bool true, .bool false, .slice none 0 0,
      .agg #[.int .i64 p.mn, .int .i64 p.av, .int .i64 p.mx], .func (.func 42) #[] #[.pointer (some ⟨bp, 0, none⟩), .pointer (some ⟨bb, 0, none⟩)], v, undef, undef, undef, undef, undef, undef, undef, undef, undef], defers := [] })
    ?gassign ?gA ?gbody ?gdone (fun _ _ _ _ _ _ _ _ _ h _ => h.elim)
  case gInp => rintro k (rfl | rfl | rfl | h) <;> omega
  case gO => rintro k (rfl | rfl | rfl | h) h' <;> omega
  case gI =>
    rintro m pre A' B' ⟨h1, h3⟩ ht
    exact ⟨h1.turned ht (fun h => by have := h.1; omega), turns_then_grows h3 ht (fun k h => Nat.le_trans hgw3.size h.1)⟩
  case gh0 => exact fun m W1 _ _ hg => ⟨hx3.later hg, Grows.trans hgw3 hg⟩
  case gassign =>
    intro l v W K hK
    gi_wp2
    exact hK
  case gA =>
    rintro m W0 x v A' B' _ _ ⟨Ax, cx, rfl, h1, h2⟩ ht
    exact ⟨Ax, cx, rfl, h1, h2.turned ht (fun k hk h => by have := h.1; have := hgw3.size; omega)⟩
  case gbody =>
    rintro l m pre x v W0 W hm hmW0 _ _ hT0 hpre _
    have := hpre.length_le
    rw [List.length_append, List.length_singleton, List.length_nil] at this
    omega
  case gdone =>
    rintro D m W hm hmW rfl ⟨hx, hgw⟩ hD
    have hc := hx.cell (k := 0) rfl
    gi_wp2
    have ht := turns_putObj (S := fun k => k = w3.heap.size) W w3.heap.size (.deferred none) rfl
    exact marks_ret hD (fun u => results_tmp2 rfl _ _ _) ⟨rfl, turns_then_grows hgw ht (fun k h => by rw [h]; exact hgw3.size)⟩
end Go.Proofs.YtkgkkobdpgnicaaDoor
