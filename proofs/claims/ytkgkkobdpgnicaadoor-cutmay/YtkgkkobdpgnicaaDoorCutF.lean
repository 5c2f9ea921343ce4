/-
  Contract of cut.Sizes: a loop over the chunks that collects their sizes.
-/
import Derived.Test.YtkgkkobdpgnicaaDoorCutE
import Derived.Maps.OwnIn
namespace Go.Proofs.YtkgkkobdpgnicaaDoor
open Go.RowKit Go.Shelf
set_option linter.unusedVariables false
attribute [local go_sem] Oper.semAt_some

theorem int_info : (Tryd.prog.info? 3).map (fun i => (i.zero, i.size, i.bytes)) = some (some (.int .i64 0), 1, 8) := by kernel_rfl
def lenV (x : List UInt8) : Value := .int .i64 (x.length : Int)

set_option maxRecDepth 20000 in
set_option maxHeartbeats 2000000 in
theorem sizes_any (p : Prm) (hp : p.Ok) (A : Option Addr) (n c : Nat) (bs : List UInt8) (w : World) (hl : bs.length = n) (hnc : n ≤ c) (hr : Lies w w.heap.size A (bs.map bv)) (hs : Starts w) (hn : n ≤ 1000000) :
    Calls Tryd.prog 13 #[.slice A n c, pv p] w fun e w' => ∃ v, e = .returned (.tuple #[v, .int .i64 0]) ∧ w'.ownsRow w.heap.size 3 1 v (chunksOf p bs).length ((chunksOf p bs).map lenV) ∧ Grows w w' := by
  have hpz : pv p = .agg #[.int .i64 p.mn, .int .i64 p.av, .int .i64 p.mx] := rfl
  have M0 : Hid (∀ u, Calls Tryd.prog 16 #[.agg #[.int .i64 p.mn, .int .i64 p.av, .int .i64 p.mx]] u fun e w' => e = .returned (.bool true) ∧ Grows u w') := fun u => by
    have := may_any p.mn p.av p.mx u
    rwa [may_ok hp] at this
  have hb0 := Has.new w 23 [.int .i64 (p.mn : Int), .int .i64 (p.av : Int), .int .i64 (p.mx : Int)]
  have hg0 := grows_alloc w (.cells [.int .i64 (p.mn : Int), .int .i64 (p.av : Int), .int .i64 (p.mx : Int)].toArray 23)
  refine calls_marks Tryd.func13 rfl ?_
  simp only [Tryd.ntmps13, List.size_toArray, List.length_cons, List.length_nil, Nat.reduceAdd, Nat.reduceSub, Array.replicate_succ, Array.replicate_zero, List.push_toArray, List.append_toArray, List.nil_append, List.cons_append]
  rw [hpz]
  gi_wp2_with fail
  refine call_wide (M0.out _) ?_
  rintro e w1 ⟨rfl, hg1⟩
  have hb1 := hb0.later hg1
  have P0 := hb1.cell (k := 0) rfl
  have P1 := hb1.cell (k := 1) rfl
  have P2 := hb1.cell (k := 2) rfl
  have hgw1 := Grows.trans hg0 hg1
  have hx1 := Has.new w1 32 [.slice none 0 0]
  have hgx := grows_alloc w1 (.cells [.slice none 0 0].toArray 32)
  have hlt1 := hb1.lt
  clear hb0 hg0 hg1
  gi_wp2_with fail
  refine call_wide (chunks_any p A n c _) ?_
  rintro e w3 ⟨bb, bp, rfl, hbb, hbp, hB, hP, hg3⟩
  have hx3 := hx1.later hg3
  have hgw3 := Grows.trans hgw1 (Grows.trans hgx hg3)
  have hb0s : w.heap.size ≤ w1.heap.size := hgw1.size
  have hxl := hx3.lt
  have hseq := chunks_seq p hp bb bp (fun k => k < w.heap.size) A n c bs w3 hB hP hl hnc ((LiesIn.of_lies hr (fun _ h => h)).later hgw3) (fun k h => Nat.lt_of_lt_of_le h hgw3.size) (hs.later hgw3) hn
  rw [World.size_alloc] at hbb hbp
  generalize hx : w1.heap.size = bx at *
  have hbs : Starts w := hs
  have hz := hs.pos
  have hBl := hB.lt
  have hPl := hP.lt
  clear hgx hg3 hx1 hx
  gi_wp2_with fail
  refine wp_range (gf := 42) (lb := #[.pointer (some ⟨bp, 0, none⟩), .pointer (some ⟨bb, 0, none⟩)]) rfl (enters_of Tryd.func42 (by kernel_rfl) rfl) rfl hseq ?gInp (fun k => k = bx) ?gO (fun k h => by rw [h]; exact hxl)
    (fun m pre W => ∃ v, Has W bx [v] ∧ W.ownsRow m 3 1 v pre.length (pre.map lenV) ∧ Grows w W) (fun _ _ _ _ => False) ?gI (fun _ _ _ _ _ h _ => h) ?gh0
    (fun v => { tmps := #[.slice A n c, .agg #[.int .i64 p.mn, .int .i64 p.av, .int .i64 p.mx], undef, .pointer (some ⟨w.heap.size, 0, none⟩), .slice none 0 0, .int .i64 0, .pointer (some ⟨bx, 0, none⟩), v, .agg #[.int .i64 p.mn, .int .i64 p.av, .int .i64 p.mx], .bool true, .bool false, .slice A n c,
      .agg #[.int .i64 p.mn, .int .i64 p.av, .int .i64 p.mx], .func (.func 42) #[] #[.pointer (some ⟨bp, 0, none⟩), .pointer (some ⟨bb, 0, none⟩)], v, undef, undef, undef, undef, undef, undef], defers := [] })
    ?gassign ?gA ?gbody ?gdone (fun _ _ _ _ _ _ _ _ _ h _ => h.elim)
  case gInp => rintro k (rfl | rfl | rfl | h) <;> omega
  case gO => rintro k (rfl | rfl | rfl | h) h' <;> omega
  case gI =>
    rintro m pre A' B' ⟨v, h1, h2, h3⟩ ht
    exact ⟨v, h1.turned ht (fun h => by have := h.1; omega), own_turned h2 ht (fun g hg h => by have := own_ge h2 g hg; have := h.2; omega), turns_then_grows h3 ht (fun k h => Nat.le_trans hgw3.size h.1)⟩
  case gh0 => exact fun m W1 _ _ hg => ⟨_, hx3.later hg, World.ownsRow_nil _ _ _ _, Grows.trans hgw3 hg⟩
  case gassign =>
    intro l v W K hK
    gi_wp2
    exact hK
  case gA =>
    rintro m W0 x v A' B' _ _ ⟨Ax, cx, rfl, h1, h2⟩ ht
    exact ⟨Ax, cx, rfl, h1, h2.turned ht (fun k hk h => by have := h.1; have := hgw3.size; omega)⟩
  case gbody =>
    rintro l m pre x v W0 W hm hmW0 _ ⟨v0, hx, hrow, hgw⟩ hT0 hpre ⟨Ax, cx, rfl, hxc, hLx⟩
    have hmW := Nat.le_trans hmW0 hT0.size
    clear hT0
    have hlen : pre.length + 1 ≤ 1000000 := by
      have h1 := hpre.length_le
      have h2 := chunks_len p bs
      rw [List.length_append, List.length_singleton] at h1
      omega
    have hc := hx.cell (k := 0) rfl
    obtain ⟨i0, hi0, hz0, hz1, hz2⟩ := info_parts int_info
    have HC := fun (w4 : World) (h : (W.alloc (.cells #[.int .i64 (x.length : Int)] 3)).grownBy w4 v0.ownBlock) => coll_app (row := none) hx (by omega) hrow (grows_alloc W _) h
    have HX : Hid (pre.map lenV ++ [.int .i64 (x.length : Int)] = (pre ++ [x]).map lenV) := by show _ = _; simp [lenV]
    have HLN : Hid ((pre ++ [x]).length = pre.length + 1) := by show _ = _; simp
    gi_wp2_with (gi_at_builtin; go_loud (refine wpListIn_append_own_at _ rfl (.tmp 15) (.tmp 18) _ rfl m 3 i0 _ 1 8 Tryd.underlying32 hi0 hz0 hz1 hz2 rfl (by decide) v0 pre.length _ rfl (hrow.alloc _) ⟨W.heap.size, 0, none⟩ 1 1 [.int .i64 (x.length : Int)] rfl rfl (cell_one_new _ _ _) (by simp [Value.oneCell']) (by unfold maxLen; omega) (by omega) (by rw [World.size_alloc]; omega) ?_; intro v' w4 hown' hg' hnil' hat'; obtain ⟨hx4, ht4⟩ := HC w4 hg'; have hc4 := hx4.cell (k := 0) rfl; have hf4 := hx4.free 0; obtain ⟨hx5, ho5, ht5⟩ := coll_set hx4 (by omega) hown' ht4; obtain ⟨A5, c5, rfl, _⟩ := own_form hown'))
    exact ⟨ht5, _, hx5, by rw [HLN.out, ← HX.out]; exact ho5, turns_then_grows hgw ht5 (fun k h => h.elim (fun h => by omega) (fun h => by have := hgw3.size; omega))⟩
  case gdone =>
    rintro D m W hm hmW rfl ⟨v, hx, hrow, hgw⟩ hD
    have hc := hx.cell (k := 0) rfl
    gi_wp2
    have ht := turns_putObj (S := fun k => k = w3.heap.size) W w3.heap.size (.deferred none) rfl
    refine marks_ret hD (fun u => results_tmp2 rfl _ _ _) ⟨v, rfl, ?_, turns_then_grows hgw ht (fun k h => by rw [h]; exact hgw3.size)⟩
    have := own_turned hrow ht (fun g hg h => by have := own_ge hrow g hg; omega)
    exact ⟨this.1, this.2.imp id fun ⟨g, cap, cur, h1, h2, h3⟩ => ⟨g, cap, cur, h1, by have := hgw3.size; omega, h3⟩⟩
end Go.Proofs.YtkgkkobdpgnicaaDoor
