/-
  The iterator of cut.All: a copy of each chunk; cut.All.
-/
import Derived.Test.YtkgkkobdpgnicaaDoorCutF
import Derived.Test.YtkgkkobdpgnicaaDoorCln
namespace Go.Proofs.YtkgkkobdpgnicaaDoor
open Go.RowKit Go.Shelf
set_option linter.unusedVariables false
attribute [local go_sem] Oper.semAt_some

/-- The value v is the bytes x, in a row that is new behind W0. -/
def Cpy (m : Nat) (W0 W : World) (x : List UInt8) (v : Value) : Prop := W.ownsRow W0.heap.size 5 1 v x.length (x.map bv)

set_option maxRecDepth 20000 in
set_option maxHeartbeats 2000000 in
theorem all_at (p : Prm) (hp : p.Ok) (bb bp : Nat) (ok : Nat → Prop) (A : Option Addr) (n c : Nat) (bs : List UInt8) (O : Nat → Prop) (W : World) (hbb : Has W bb [.slice A n c]) (hbp : Has W bp [.int .i64 p.mn, .int .i64 p.av, .int .i64 p.mx])
    (hl : bs.length = n) (hnc : n ≤ c) (hr : LiesIn ok W A (bs.map bv)) (hB : ∀ k, ok k → k < W.heap.size) (hs : Starts W) (hn : n ≤ 1000000) (hO : ∀ k, ChInp bb bp ok k → ¬ O k) (hOl : ∀ k, O k → k < W.heap.size) :
    SeqAt Tryd.prog 40 #[.pointer (some ⟨bb, 0, none⟩), .pointer (some ⟨bp, 0, none⟩)] Cpy (chunksOf p bs) O W := by
  intro l J Jx hJ hJx hY h0
  have P0 := hbp.cell (k := 0) rfl
  have P1 := hbp.cell (k := 1) rfl
  have P2 := hbp.cell (k := 2) rfl
  have Q0 := hbb.cell (k := 0) rfl
  have hz := hs.pos
  have hy0 := Has.new W 77 [.func (.yield l) #[] #[]]
  have hg0 := grows_alloc W (.cells [.func (.yield l) #[] #[]].toArray 77)
  have hsw : (W.alloc (.cells [.func (.yield l) #[] #[]].toArray 77)).heap.size = W.heap.size + 1 := by simp
  have P0' := hcell_later P0 hg0
  have P1' := hcell_later P1 hg0
  have P2' := hcell_later P2 hg0
  have Q0' := hcell_later Q0 hg0
  have CH := Lib.hid (show ∀ u, Calls Tryd.prog 29 #[.slice A n c, .agg #[.int .i64 p.mn, .int .i64 p.av, .int .i64 p.mx]] u fun e w' => ∃ bb bp, e = .returned (.func (.func 42) #[] #[.pointer (some ⟨bp, 0, none⟩), .pointer (some ⟨bb, 0, none⟩)]) ∧ u.heap.size ≤ bb ∧ u.heap.size ≤ bp ∧ Has w' bb [.slice A n c] ∧
      Has w' bp [.int .i64 p.mn, .int .i64 p.av, .int .i64 p.mx] ∧ Grows u w' from fun u => chunks_any p A n c u)
  refine callsIn_of_wp_marks Tryd.func40 rfl trivial ?_ rfl
  simp only [Tryd.ntmps40, List.size_toArray, List.length_cons, List.length_nil, Nat.reduceAdd, Nat.reduceSub, Array.replicate_succ, Array.replicate_zero, List.push_toArray, List.append_toArray, List.nil_append, List.cons_append]
  gi_wp2_with fail
  refine call_wide (CH.out _) ?_
  rintro e w3 ⟨b1, p1, rfl, hb1, hp1, hB1, hP1, hg3⟩
  rw [hsw] at hb1 hp1
  have hy3 := hy0.later hg3
  have hgw3 := Grows.trans hg0 hg3
  have hseq := chunks_seq p hp b1 p1 ok A n c bs w3 hB1 hP1 hl hnc (hr.later hgw3) (fun k h => Nat.lt_of_lt_of_le (hB k h) hgw3.size) (hs.later hgw3) hn
  obtain ⟨by_, hby⟩ : ∃ k, k = W.heap.size := ⟨_, rfl⟩
  rw [← hby] at hy3
  have HBY := Lib.hid hby
  have hBl := hB1.lt
  have hPl := hP1.lt
  have hyl := hy3.lt
  have hsz3 := hgw3.size
  clear hg3 hg0 hy0 hsw P0 P1 P2 Q0 P0' P1' P2' Q0'
  gi_wp2_with fail
  rw [← hby]
  have hOy : ¬ O by_ := fun h => by have := hOl _ h; omega
  clear hby
  refine wp_range (gf := 42) (lb := #[.pointer (some ⟨p1, 0, none⟩), .pointer (some ⟨b1, 0, none⟩)]) rfl (enters_of Tryd.func42 (by kernel_rfl) rfl) rfl hseq ?gInp O ?gO (fun k h => by have := hOl k h; omega)
    (fun m pre W' => J m pre W' ∧ Has W' by_ [.func (.yield l) #[] #[]]) (fun m c pre W' => c = .ret ∧ Jx m pre W') ?gI ?gIx ?gh0
    (fun v => { tmps := #[.func (.yield l) #[] #[], .pointer (some ⟨bb, 0, none⟩), .pointer (some ⟨bp, 0, none⟩), .pointer (some ⟨by_, 0, none⟩), v, .slice A n c, .agg #[.int .i64 p.mn, .int .i64 p.av, .int .i64 p.mx],
      .func (.func 42) #[] #[.pointer (some ⟨p1, 0, none⟩), .pointer (some ⟨b1, 0, none⟩)], v, undef, undef, undef, undef, undef], defers := [] })
    ?gassign ?gA ?gbody ?gdone ?gstop
  case gInp =>
    rintro k (rfl | rfl | rfl | h)
    · omega
    · omega
    · omega
    · have := hB k h; omega
  case gO =>
    rintro k (rfl | rfl | h) h'
    · have := hOl _ h'; omega
    · have := hOl _ h'; omega
    · exact hO k (.inr (.inr h)) h'
  case gI =>
    rintro m pre A' B' ⟨h1, h2⟩ ht
    exact ⟨hJ _ _ _ _ h1 (ht.mono fun k _ h => ⟨Nat.le_trans hsz3 h.1, h.2⟩), h2.turned ht (fun h => by have := h.1; omega)⟩
  case gIx =>
    rintro m c pre A' B' ⟨h1, h2⟩ ht
    exact ⟨h1, hJx _ _ _ _ h2 (ht.mono fun k _ h => ⟨Nat.le_trans hsz3 h.1, h.2⟩)⟩
  case gh0 => exact fun m W1 h1 h2 hg => ⟨h0 m W1 (Nat.le_trans hsz3 h1) h2 (Grows.trans hgw3 hg), hy3.later hg⟩
  case gassign =>
    intro l v W K hK
    gi_wp2
    exact hK
  case gA =>
    rintro m W0 x v A' B' _ _ ⟨Ax, cx, rfl, h1, h2⟩ ht
    exact ⟨Ax, cx, rfl, h1, h2.turned ht (fun k hk h => by have := h.1; have := hB k hk; omega)⟩
  case gdone =>
    rintro D m W4 hm hmW rfl ⟨hj, hy⟩ hD
    gi_wp2
    refine marks_end hD (fun u => results_none rfl _ _ _) ⟨⟨_, rfl⟩, m, by omega, by simpa using hmW, .inl (hJ _ _ _ _ hj (turns_putObj W4 _ _ ⟨by omega, by omega⟩))⟩
  case gstop =>
    rintro D m c pre W4 hm hmW rfl hpre ⟨rfl, hj⟩ hD
    gi_wp2
    refine marks_ret hD (fun u => results_none rfl _ _ _) ⟨⟨_, rfl⟩, m, by omega, by simpa using hmW, .inr ⟨pre, hpre, hJx _ _ _ _ hj (turns_putObj W4 _ _ ⟨by omega, by omega⟩)⟩⟩
  case gbody =>
    rintro l' m pre x v W0 W4 hm hmW0 _ ⟨hj, hy⟩ hT0 hpre ⟨Ax, cx, rfl, hxc, hLx⟩
    have hmW := Nat.le_trans hmW0 hT0.size
    have hlen : x.length ≤ 1000000 := by
      have h1 := chunks_flat p bs
      obtain ⟨t, ht⟩ := hpre
      have := congrArg List.length h1
      rw [← ht] at this
      simp at this
      omega
    have hyd := hy.drew
    have hyc := hyd.cell (k := 0) rfl
    have hgd : Grows W4 W4.drew := (Grows.refl W4).drew
    have CL := bclone_any Ax x.length cx x W4.drew rfl ((hLx.lies (B := W4.heap.size) (fun k h => by have := hB k h; omega)).later hgd) (by omega)
    have mixed : Tryd.prog.follows .mixedOrders = true := by kernel_rfl
    have YY : Hid (∀ v5 w5, Grows W4.drew w5 → w5.ownsRow W4.drew.heap.size 5 1 v5 x.length (x.map bv) → YieldAt Fence.wide 0 Tryd.prog l #[v5] w5 fun e W' => ∃ q : Bool, e = .returned (.bool q) ∧ Turns (Rnd O m) w5 W' ∧ ((q = true ∧ J m (pre ++ [x]) W') ∨ (q = false ∧ Jx m (pre ++ [x]) W'))) := fun v5 w5 hg5 ho5 =>
      (hY m pre x v5 W4 w5 (by omega) hmW hj (Grows.trans hgd hg5) hpre ho5).mono (fun e W' h => by
        rcases h with ⟨rfl, h1, h2⟩ | ⟨rfl, h1, h2⟩
        · exact ⟨true, rfl, h2, .inl ⟨rfl, h1⟩⟩
        · exact ⟨false, rfl, h2, .inr ⟨rfl, h1⟩⟩)
    gi_wp2_with fail
    gi_region_with_o (first | (refine call_round CL ?_; clear CL; rintro e w5 ⟨v5, rfl, ho5, hg5⟩; have hyc5 := hcell_later hyc hg5; obtain ⟨fn, tmps, assign, body, hyy, hR⟩ := YY.out v5 w5 hg5 ho5) | (refine ⟨rfl, RoundIn.mono (F := Fence.wide.inRound l') hR ?_⟩; clear hR hyy; rintro e W6 ⟨q, rfl, hT6, h6⟩))
    all_goals (
      have hT7 := (Turns.of_grows (S := Rnd O m) (Grows.trans hgd hg5)).trans hT6
      have hy7 := hy.turned hT7 (fun h => h.elim hOy (fun h => by omega))
      rcases h6 with ⟨rfl, hj7⟩ | ⟨rfl, hj7⟩
      · gi_wp2
        exact ⟨hT7, hj7, hy7⟩
      · gi_wp2
        exact ⟨hT7, rfl, hj7⟩)

theorem all_seq (p : Prm) (hp : p.Ok) (bb bp : Nat) (ok : Nat → Prop) (A : Option Addr) (n c : Nat) (bs : List UInt8) (w : World) (hbb : Has w bb [.slice A n c]) (hbp : Has w bp [.int .i64 p.mn, .int .i64 p.av, .int .i64 p.mx])
    (hl : bs.length = n) (hnc : n ≤ c) (hr : LiesIn ok w A (bs.map bv)) (hB : ∀ k, ok k → k < w.heap.size) (hs : Starts w) (hn : n ≤ 1000000) :
    SeqOf Tryd.prog 40 #[.pointer (some ⟨bb, 0, none⟩), .pointer (some ⟨bp, 0, none⟩)] Cpy (chunksOf p bs) (ChInp bb bp ok) w := fun O W hg hO hOl =>
  all_at p hp bb bp ok A n c bs O W (hbb.later hg) (hbp.later hg) hl hnc (hr.later hg) (fun k h => Nat.lt_of_lt_of_le (hB k h) hg.size) (hs.later hg) hn hO hOl

/-- What cut.All hands back. -/
theorem all_any (p : Prm) (hp : p.Ok) (A : Option Addr) (n c : Nat) (bs : List UInt8) (w : World) (hl : bs.length = n) (hnc : n ≤ c) (hr : Lies w w.heap.size A (bs.map bv)) (hs : Starts w) (hn : n ≤ 1000000) :
    Calls Tryd.prog 27 #[.slice A n c, pv p] w fun e w' => ∃ bb bp, e = .returned (.func (.func 40) #[] #[.pointer (some ⟨bb, 0, none⟩), .pointer (some ⟨bp, 0, none⟩)]) ∧ w.heap.size ≤ bb ∧ w.heap.size ≤ bp ∧ bb < w'.heap.size ∧ bp < w'.heap.size ∧
      SeqOf Tryd.prog 40 #[.pointer (some ⟨bb, 0, none⟩), .pointer (some ⟨bp, 0, none⟩)] Cpy (chunksOf p bs) (fun k => w.heap.size ≤ k ∧ k < w'.heap.size ∨ k = 0) w' ∧ Grows w w' := by
  have h2 := Has.new w 23 [.int .i64 (p.mn : Int), .int .i64 (p.av : Int), .int .i64 (p.mx : Int)]
  have g2 := grows_alloc w (.cells [.int .i64 (p.mn : Int), .int .i64 (p.av : Int), .int .i64 (p.mx : Int)].toArray 23)
  have CL := bclone_any A n c bs (w.alloc (.cells [.int .i64 (p.mn : Int), .int .i64 (p.av : Int), .int .i64 (p.mx : Int)].toArray 23)) hl (hr.later g2) (by omega)
  rw [World.size_alloc] at CL
  unfold pv pz
  go_enter Tryd.func27, Tryd.ntmps27
  go_wp2_with fail
  refine CL.mono ?_
  rintro e w1 ⟨v, rfl, hown, hg1⟩
  have h3 := h2.later hg1
  have g3 := Grows.trans g2 hg1
  have h4 := Has.new w1 35 [v]
  have g4 := grows_alloc w1 (.cells [v].toArray 35)
  have h5 := h3.later g4
  have g5 := Grows.trans g3 g4
  obtain ⟨A', c', rfl, hnc'⟩ := own_form hown
  have hseq := all_seq p hp w1.heap.size w.heap.size (fun k => w.heap.size + 1 ≤ k ∧ k < w1.heap.size) A' n c' bs (w1.alloc (.cells #[.slice A' n c'] 35)) h4 h5 hl hnc' ((LiesIn.of_own hown).later g4) (fun k h => by rw [World.size_alloc]; omega) (hs.later g5) hn
  have hsz := g3.size
  go_wp2_with fail
  go_ret
  refine ⟨_, _, rfl, hsz, Nat.le_refl _, by simp, by simp; omega, fun O W hg hO hOl => hseq O W hg (fun k hk => hO k ?_) hOl, g5⟩
  rw [World.size_alloc]
  rcases hk with rfl | rfl | rfl | ⟨h1, h2⟩
  · exact .inl ⟨hsz, by omega⟩
  · exact .inl ⟨Nat.le_refl _, by omega⟩
  · exact .inr rfl
  · exact .inl ⟨by omega, by omega⟩
end Go.Proofs.YtkgkkobdpgnicaaDoor
