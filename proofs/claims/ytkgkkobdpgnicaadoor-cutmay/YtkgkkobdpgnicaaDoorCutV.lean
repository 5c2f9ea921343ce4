/-
  The iterators of cut.chunks and cut.All at parameters that may not be: no chunks; the law's collect.
-/
import Derived.Test.YtkgkkobdpgnicaaDoorCutH
import Derived.Test.YtkgkkobdpgnicaaDoorCutU
namespace Go.Proofs.YtkgkkobdpgnicaaDoor
open Go.RowKit Go.Shelf
set_option linter.unusedVariables false
attribute [local go_sem] Oper.semAt_some

theorem chunks_anyZ (a b d : Int) (A : Option Addr) (n c : Nat) (w : World) :
    Calls Tryd.prog 29 #[.slice A n c, pz a b d] w fun e w' => ∃ bb bp, e = .returned (.func (.func 42) #[] #[.pointer (some ⟨bp, 0, none⟩), .pointer (some ⟨bb, 0, none⟩)]) ∧ w.heap.size ≤ bb ∧ w.heap.size ≤ bp ∧ Has w' bb [.slice A n c] ∧
      Has w' bp [.int .i64 a, .int .i64 b, .int .i64 d] ∧ Grows w w' := by
  have h1 := Has.new w 35 [.slice A n c]
  have g1 := grows_alloc w (.cells [.slice A n c].toArray 35)
  have h2 := Has.new (w.alloc (.cells [.slice A n c].toArray 35)) 23 [.int .i64 a, .int .i64 b, .int .i64 d]
  have g2 := grows_alloc (w.alloc (.cells [.slice A n c].toArray 35)) (.cells [.int .i64 a, .int .i64 b, .int .i64 d].toArray 23)
  have h3 := h1.later g2
  have g3 := Grows.trans g1 g2
  rw [World.size_alloc] at h2
  unfold pz
  go_enter Tryd.func29, Tryd.ntmps29
  go_wp2
  go_ret
  exact ⟨_, _, rfl, Nat.le_refl _, by omega, h3, h2, g3⟩

theorem chunks_no (a b d : Int) (hno : mayZ a b d = false) (bb bp : Nat) (A : Nat → World → World → List UInt8 → Value → Prop) (w : World) (hbp : Has w bp [.int .i64 a, .int .i64 b, .int .i64 d]) :
    SeqOf Tryd.prog 42 #[.pointer (some ⟨bp, 0, none⟩), .pointer (some ⟨bb, 0, none⟩)] A [] (fun k => k = bb ∨ k = bp) w := by
  intro O W hg hO hOl l J Jx hJ hJx hY h0
  have hbp := hbp.later hg
  have P0 := hbp.cell (k := 0) rfl
  have P1 := hbp.cell (k := 1) rfl
  have P2 := hbp.cell (k := 2) rfl
  refine callsIn_of_wp Tryd.func42 rfl trivial ?_ rfl
  simp only [Tryd.ntmps42, List.size_toArray, List.length_cons, List.length_nil, Nat.reduceAdd, Nat.reduceSub, Array.replicate_succ, Array.replicate_zero, List.push_toArray, List.append_toArray, List.nil_append, List.cons_append]
  have M0 := may_any a b d W
  rw [hno] at M0
  unfold pz at M0
  gi_wp2_with fail
  refine call_wide M0 ?_
  rintro e w1 ⟨rfl, hg1⟩
  gi_wp2_with fail
  refine bodyPost_ret (results_none rfl _ _ _) rfl ?_
  exact ⟨⟨_, rfl⟩, w1.heap.size, hg1.size, Nat.le_refl _, .inl (h0 _ w1 hg1.size (Nat.le_refl _) hg1)⟩

set_option maxRecDepth 20000 in
set_option maxHeartbeats 2000000 in
theorem all_no (a b d : Int) (hno : mayZ a b d = false) (bb bp : Nat) (A : Option Addr) (n c : Nat) (w : World) (hbb : Has w bb [.slice A n c]) (hbp : Has w bp [.int .i64 a, .int .i64 b, .int .i64 d]) :
    SeqOf Tryd.prog 40 #[.pointer (some ⟨bb, 0, none⟩), .pointer (some ⟨bp, 0, none⟩)] Cpy [] (fun k => k = bb ∨ k = bp) w := by
  intro O W hgW hO hOl l J Jx hJ hJx hY h0
  have hbb := hbb.later hgW
  have hbp := hbp.later hgW
  have P0 := hbp.cell (k := 0) rfl
  have P1 := hbp.cell (k := 1) rfl
  have P2 := hbp.cell (k := 2) rfl
  have Q0 := hbb.cell (k := 0) rfl
  have hy0 := Has.new W 77 [.func (.yield l) #[] #[]]
  have hg0 := grows_alloc W (.cells [.func (.yield l) #[] #[]].toArray 77)
  have hsw : (W.alloc (.cells [.func (.yield l) #[] #[]].toArray 77)).heap.size = W.heap.size + 1 := by simp
  have P0' := hcell_later P0 hg0
  have P1' := hcell_later P1 hg0
  have P2' := hcell_later P2 hg0
  have Q0' := hcell_later Q0 hg0
  have CH := Lib.hid (show ∀ u, Calls Tryd.prog 29 #[.slice A n c, .agg #[.int .i64 a, .int .i64 b, .int .i64 d]] u fun e w' => ∃ bb bp, e = .returned (.func (.func 42) #[] #[.pointer (some ⟨bp, 0, none⟩), .pointer (some ⟨bb, 0, none⟩)]) ∧ u.heap.size ≤ bb ∧ u.heap.size ≤ bp ∧ Has w' bb [.slice A n c] ∧
      Has w' bp [.int .i64 a, .int .i64 b, .int .i64 d] ∧ Grows u w' from fun u => chunks_anyZ a b d A n c u)
  refine callsIn_of_wp_marks Tryd.func40 rfl trivial ?_ rfl
  simp only [Tryd.ntmps40, List.size_toArray, List.length_cons, List.length_nil, Nat.reduceAdd, Nat.reduceSub, Array.replicate_succ, Array.replicate_zero, List.push_toArray, List.append_toArray, List.nil_append, List.cons_append]
  gi_wp2_with fail
  refine call_wide (CH.out _) ?_
  rintro e w3 ⟨b1, p1, rfl, hb1, hp1, hB1, hP1, hg3⟩
  rw [hsw] at hb1 hp1
  have hy3 := hy0.later hg3
  have hgw3 := Grows.trans hg0 hg3
  have hseq := chunks_no a b d hno b1 p1 (fun _ _ _ _ _ => True) w3 hP1
  obtain ⟨by_, hby⟩ : ∃ k, k = W.heap.size := ⟨_, rfl⟩
  rw [← hby] at hy3
  have HBY := Lib.hid hby
  have hBl := hB1.lt
  have hPl := hP1.lt
  have hyl := hy3.lt
  have hsz3 := hgw3.size
  clear hg3 hg0 hy0 hsw P0 P1 P2 Q0 P0' P1' P2' Q0'
  gi_wp2_with fail
  rw [← hby]
  have hOy : ¬ O by_ := fun h => by have := hOl _ h; omega
  clear hby
  refine wp_range (gf := 42) (lb := #[.pointer (some ⟨p1, 0, none⟩), .pointer (some ⟨b1, 0, none⟩)]) rfl (enters_of Tryd.func42 (by kernel_rfl) rfl) rfl hseq ?gInp O ?gO (fun k h => by have := hOl k h; omega)
    (fun m pre W' => J m pre W' ∧ Has W' by_ [.func (.yield l) #[] #[]]) (fun m c pre W' => c = .ret ∧ Jx m pre W') ?gI ?gIx ?gh0
    (fun v => { tmps := #[.func (.yield l) #[] #[], .pointer (some ⟨bb, 0, none⟩), .pointer (some ⟨bp, 0, none⟩), .pointer (some ⟨by_, 0, none⟩), v, .slice A n c, .agg #[.int .i64 a, .int .i64 b, .int .i64 d],
      .func (.func 42) #[] #[.pointer (some ⟨p1, 0, none⟩), .pointer (some ⟨b1, 0, none⟩)], v, undef, undef, undef, undef, undef], defers := [] })
    ?gassign ?gA ?gbody ?gdone ?gstop
  case gInp =>
    rintro k (rfl | rfl)
    · omega
    · omega
  case gO =>
    rintro k (rfl | rfl) h'
    · have := hOl _ h'; omega
    · have := hOl _ h'; omega
  case gI =>
    rintro m pre A' B' ⟨h1, h2⟩ ht
    exact ⟨hJ _ _ _ _ h1 (ht.mono fun k _ h => ⟨Nat.le_trans hsz3 h.1, h.2⟩), h2.turned ht (fun h => by have := h.1; omega)⟩
  case gIx =>
    rintro m c pre A' B' ⟨h1, h2⟩ ht
    exact ⟨h1, hJx _ _ _ _ h2 (ht.mono fun k _ h => ⟨Nat.le_trans hsz3 h.1, h.2⟩)⟩
  case gh0 => exact fun m W1 h1 h2 hg => ⟨h0 m W1 (Nat.le_trans hsz3 h1) h2 (Grows.trans hgw3 hg), hy3.later hg⟩
  case gassign =>
    intro l v W K hK
    gi_wp2
    exact hK
  case gA => exact fun m W0 x v A' B' _ _ h _ => trivial
  case gdone =>
    rintro D m W4 hm hmW rfl ⟨hj, hy⟩ hD
    gi_wp2
    refine marks_end hD (fun u => results_none rfl _ _ _) ⟨⟨_, rfl⟩, m, by omega, by simpa using hmW, .inl (hJ _ _ _ _ hj (turns_putObj W4 _ _ ⟨by omega, by omega⟩))⟩
  case gstop =>
    rintro D m c pre W4 hm hmW rfl hpre ⟨rfl, hj⟩ hD
    gi_wp2
    refine marks_ret hD (fun u => results_none rfl _ _ _) ⟨⟨_, rfl⟩, m, by omega, by simpa using hmW, .inr ⟨pre, hpre, hJx _ _ _ _ hj (turns_putObj W4 _ _ ⟨by omega, by omega⟩)⟩⟩
  case gbody =>
    rintro l' m pre x v W0 W hm hmW0 _ _ hT0 hpre _
    have := hpre.length_le
    rw [List.length_append, List.length_singleton, List.length_nil] at this
    omega

theorem all_anyZ (a b d : Int) (hno : mayZ a b d = false) (A : Option Addr) (n c : Nat) (bs : List UInt8) (w : World) (hl : bs.length = n) (hnc : n ≤ c) (hr : Lies w w.heap.size A (bs.map bv)) (hn : n ≤ 1000000) :
    Calls Tryd.prog 27 #[.slice A n c, pz a b d] w fun e w' => ∃ bb bp, e = .returned (.func (.func 40) #[] #[.pointer (some ⟨bb, 0, none⟩), .pointer (some ⟨bp, 0, none⟩)]) ∧ w.heap.size ≤ bb ∧ w.heap.size ≤ bp ∧ bb < w'.heap.size ∧ bp < w'.heap.size ∧
      SeqOf Tryd.prog 40 #[.pointer (some ⟨bb, 0, none⟩), .pointer (some ⟨bp, 0, none⟩)] Cpy [] (fun k => w.heap.size ≤ k ∧ k < w'.heap.size) w' ∧ Grows w w' := by
  have h2 := Has.new w 23 [.int .i64 a, .int .i64 b, .int .i64 d]
  have g2 := grows_alloc w (.cells [.int .i64 a, .int .i64 b, .int .i64 d].toArray 23)
  have CL := bclone_any A n c bs (w.alloc (.cells [.int .i64 a, .int .i64 b, .int .i64 d].toArray 23)) hl (hr.later g2) (by omega)
  rw [World.size_alloc] at CL
  unfold pz
  go_enter Tryd.func27, Tryd.ntmps27
  go_wp2_with fail
  refine CL.mono ?_
  rintro e w1 ⟨v, rfl, hown, hg1⟩
  have h3 := h2.later hg1
  have g3 := Grows.trans g2 hg1
  have h4 := Has.new w1 35 [v]
  have g4 := grows_alloc w1 (.cells [v].toArray 35)
  have h5 := h3.later g4
  have g5 := Grows.trans g3 g4
  obtain ⟨A', c', rfl, hnc'⟩ := own_form hown
  have hseq := all_no a b d hno w1.heap.size w.heap.size A' n c' (w1.alloc (.cells #[.slice A' n c'] 35)) h4 h5
  have hsz := g3.size
  go_wp2_with fail
  go_ret
  refine ⟨_, _, rfl, hsz, Nat.le_refl _, by simp, by simp; omega, fun O W hg hO hOl => hseq O W hg (fun k hk => hO k ?_) hOl, g5⟩
  rw [World.size_alloc]
  rcases hk with rfl | rfl
  · exact ⟨hsz, by omega⟩
  · exact ⟨Nat.le_refl _, by omega⟩

set_option maxRecDepth 20000 in
set_option maxHeartbeats 2000000 in
theorem collect_no (a b d : Int) (hno : mayZ a b d = false) (A : Option Addr) (n c : Nat) (bs : List UInt8) (w : World) (hl : bs.length = n) (hnc : n ≤ c) (hr : Lies w w.heap.size A (bs.map bv)) (hn : n ≤ 1000000) :
    Calls Tryd.prog 18 #[.slice A n c, pz a b d] w fun e w' => e = .returned (.slice none 0 0) ∧ Grows w w' := by
  have hb0 := Has.new w 23 [.int .i64 a, .int .i64 b, .int .i64 d]
  have hg0 := grows_alloc w (.cells [.int .i64 a, .int .i64 b, .int .i64 d].toArray 23)
  have hs0 : (w.alloc (.cells [.int .i64 a, .int .i64 b, .int .i64 d].toArray 23)).heap.size = w.heap.size + 1 := by simp
  have hx1 := Has.new (w.alloc (.cells [.int .i64 a, .int .i64 b, .int .i64 d].toArray 23)) 42 [.slice none 0 0]
  have hgx := grows_alloc (w.alloc (.cells [.int .i64 a, .int .i64 b, .int .i64 d].toArray 23)) (.cells [.slice none 0 0].toArray 42)
  have hb1 := hb0.later hgx
  have P0 := hb1.cell (k := 0) rfl
  have P1 := hb1.cell (k := 1) rfl
  have P2 := hb1.cell (k := 2) rfl
  have hg1 := Grows.trans hg0 hgx
  have AL := fun u (h : Grows w u) => all_anyZ a b d hno A n c bs u hl hnc (hr.later h) hn
  have hpz : pz a b d = .agg #[.int .i64 a, .int .i64 b, .int .i64 d] := rfl
  rw [hpz] at *
  have AL := Lib.hid AL
  rw [hs0] at hx1
  refine calls_marks Tryd.func18 rfl ?_
  simp only [Tryd.ntmps18, List.size_toArray, List.length_cons, List.length_nil, Nat.reduceAdd, Nat.reduceSub, Array.replicate_succ, Array.replicate_zero, List.push_toArray, List.append_toArray, List.nil_append, List.cons_append]
  gi_wp2_with fail
  refine call_wide (AL.out _ hg1) ?_
  rintro e w3 ⟨bb, bp, rfl, hbb, hbp, hbl, hpl, hseq, hg3⟩
  have hx3 := hx1.later hg3
  have hgw3 := Grows.trans hg1 hg3
  have hfe : ∀ u, (binOp .eql 56 (.func (.func 40) #[] #[.pointer (some ⟨bb, 0, none⟩), .pointer (some ⟨bp, 0, none⟩)]) .nilFunc).run Tryd.prog u = .ok (.bool false) u := fun u => by kernel_rfl
  have hxl := hx3.lt
  have hsz3 := hgw3.size
  have hsz1 := hg1.size
  have hbx1 : w.heap.size + 1 < (w.alloc (.cells [.int .i64 a, .int .i64 b, .int .i64 d].toArray 23)).heap.size + 1 := by rw [hs0]; omega
  rw [← World.size_alloc (w.alloc (.cells [.int .i64 a, .int .i64 b, .int .i64 d].toArray 23)) (.cells [.slice none 0 0].toArray 42)] at hbx1
  gi_wp2_with fail
  obtain ⟨bx, hbx⟩ : ∃ k, k = w.heap.size + 1 := ⟨_, rfl⟩
  rw [← hbx] at hx3 hxl hbx1 ⊢
  have hbx0 : w.heap.size < bx := by omega
  clear hbx
  refine wp_range (gf := 40) (lb := #[.pointer (some ⟨bb, 0, none⟩), .pointer (some ⟨bp, 0, none⟩)]) rfl (enters_of Tryd.func40 (by kernel_rfl) rfl) rfl hseq ?gInp (fun k => k = bx) ?gO (fun k h => by rw [h]; exact hxl)
    (fun m pre W => Has W bx [.slice none 0 0] ∧ Grows w W) (fun _ _ _ _ => False) ?gI (fun _ _ _ _ _ h _ => h) ?gh0
    (fun v => { tmps := #[.slice A n c, .agg #[.int .i64 a, .int .i64 b, .int .i64 d], undef, .pointer (some ⟨w.heap.size, 0, none⟩), .slice none 0 0, .pointer (some ⟨bx, 0, none⟩), .func (.func 40) #[] #[.pointer (some ⟨bb, 0, none⟩), .pointer (some ⟨bp, 0, none⟩)], v, .slice A n c,
      .agg #[.int .i64 a, .int .i64 b, .int .i64 d], .func (.func 40) #[] #[.pointer (some ⟨bb, 0, none⟩), .pointer (some ⟨bp, 0, none⟩)], .func (.func 40) #[] #[.pointer (some ⟨bb, 0, none⟩), .pointer (some ⟨bp, 0, none⟩)], .bool false,
      .func (.func 40) #[] #[.pointer (some ⟨bb, 0, none⟩), .pointer (some ⟨bp, 0, none⟩)], v, undef, undef, undef, undef, undef], defers := [] })
    ?gassign ?gA ?gbody ?gdone (fun _ _ _ _ _ _ _ _ _ h _ => h.elim)
  case gInp => rintro k ⟨_, h⟩; omega
  case gO => rintro k ⟨h, _⟩ h'; omega
  case gI =>
    rintro m pre A' B' ⟨h1, h3⟩ ht
    exact ⟨h1.turned ht (fun h => by have := h.1; omega), turns_then_grows h3 ht (fun k h => Nat.le_trans hsz3 h.1)⟩
  case gh0 => exact fun m W1 _ _ hg => ⟨hx3.later hg, Grows.trans hgw3 hg⟩
  case gassign =>
    intro l v W K hK
    gi_wp2
    exact hK
  case gA =>
    rintro m W0 x v A' B' h1 h2 h ht
    exact own_turned h ht (fun g hg h => by have := own_ge ‹_› g hg; have := h.2; omega)
  case gdone =>
    rintro D m W4 hm hmW rfl ⟨hx, hgw⟩ hD
    have hc := hx.cell (k := 0) rfl
    gi_wp2
    have ht := turns_putObj (S := fun k => k = w3.heap.size) W4 w3.heap.size (.deferred none) rfl
    exact marks_ret hD (fun u => results_tmp rfl _ _ _) ⟨rfl, turns_then_grows hgw ht (fun k h => by rw [h]; exact hsz3)⟩
  case gbody =>
    rintro l' m pre x v W0 W hm hmW0 _ _ hT0 hpre _
    have := hpre.length_le
    rw [List.length_append, List.length_singleton, List.length_nil] at this
    omega
end Go.Proofs.YtkgkkobdpgnicaaDoor
