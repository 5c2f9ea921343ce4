/-
  Contracts, joined (CutG CutH CutI RAro CutP Rin CutQ CutR CrcM CrcA CrcC CrcD IxM).
-/
import Derived.Test.YtnokloedbckijaaDoorK2
import Derived.Lib.SlBytesConst
import Derived.Test.YtnokloedbckijaaDoorRows
import Derived.Test.YtnokloedbckijaaDoorK1
import Derived.Outline
import Derived.Lib.Hide
import Derived.Lib.SmallJoins
import Derived.LaidMore
import Derived.Lib.LaidTab
import Derived.ProofKit
import Derived.Stop.Joined
import Derived.Laws.BitsAllLaws
import Derived.BigQuiet

/-
  The iterator of cut.All: a copy of each chunk; cut.All.
-/
namespace Go.Proofs.YtnokloedbckijaaDoor
open Go.RowKit Go.Shelf
set_option linter.unusedVariables false
set_option maxRecDepth 20000
attribute [local go_sem] Oper.semAt_some

/-- The value v is the bytes x, in a row that is new behind W0. -/
def Cpy (m : Nat) (W0 W : World) (x : List UInt8) (v : Value) : Prop := W.ownsRow W0.heap.size 5 1 v x.length (x.map bv)

set_option maxRecDepth 20000 in
set_option maxHeartbeats 2000000 in
theorem all_at (p : Prm) (hp : p.Ok) (bb bp : Nat) (ok : Nat → Prop) (A : Option Addr) (n c : Nat) (bs : List UInt8) (O : Nat → Prop) (W : World) (hbb : Has W bb [.slice A n c]) (hbp : Has W bp [.int .i64 p.mn, .int .i64 p.av, .int .i64 p.mx])
    (hl : bs.length = n) (hnc : n ≤ c) (hr : LiesIn ok W A (bs.map bv)) (hB : ∀ k, ok k → k < W.heap.size) (hs : Starts W) (hn : n ≤ 1000000) (hO : ∀ k, ChInp bb bp ok k → ¬ O k) (hOl : ∀ k, O k → k < W.heap.size) :
    SeqAt Tryd.prog 80 #[.pointer (some ⟨bb, 0, none⟩), .pointer (some ⟨bp, 0, none⟩)] Cpy (chunksOf p bs) O W := by
  intro l J Jx hJ hJx hY h0
  have P0 := hbp.cell (k := 0) rfl
  have P1 := hbp.cell (k := 1) rfl
  have P2 := hbp.cell (k := 2) rfl
  have Q0 := hbb.cell (k := 0) rfl
  have hz := hs.pos
  have hy0 := Has.new W 107 [.func (.yield l) #[] #[]]
  have hg0 := grows_alloc W (.cells [.func (.yield l) #[] #[]].toArray 107)
  have hsw : (W.alloc (.cells [.func (.yield l) #[] #[]].toArray 107)).heap.size = W.heap.size + 1 := by simp
  have P0' := hcell_later P0 hg0
  have P1' := hcell_later P1 hg0
  have P2' := hcell_later P2 hg0
  have Q0' := hcell_later Q0 hg0
  have CH := Lib.hid (show ∀ u, Calls Tryd.prog 48 #[.slice A n c, .agg #[.int .i64 p.mn, .int .i64 p.av, .int .i64 p.mx]] u fun e w' => ∃ bb bp, e = .returned (.func (.func 71) #[] #[.pointer (some ⟨bp, 0, none⟩), .pointer (some ⟨bb, 0, none⟩)]) ∧ u.heap.size ≤ bb ∧ u.heap.size ≤ bp ∧ Has w' bb [.slice A n c] ∧
      Has w' bp [.int .i64 p.mn, .int .i64 p.av, .int .i64 p.mx] ∧ Grows u w' from fun u => chunks_any p A n c u)
  refine callsIn_of_wp_marks Tryd.func80 rfl trivial ?_ rfl
  simp only [Tryd.ntmps80, List.size_toArray, List.length_cons, List.length_nil, Nat.reduceAdd, Nat.reduceSub, Array.replicate_succ, Array.replicate_zero, List.push_toArray, List.append_toArray, List.nil_append, List.cons_append]
  gi_wp2_with fail
  refine call_wide (CH.out _) ?_
  rintro e w3 ⟨b1, p1, rfl, hb1, hp1, hB1, hP1, hg3⟩
  rw [hsw] at hb1 hp1
  have hy3 := hy0.later hg3
  have hgw3 := Grows.trans hg0 hg3
  have hseq := chunks_seq p hp b1 p1 ok A n c bs w3 hB1 hP1 hl hnc (hr.later hgw3) (fun k h => Nat.lt_of_lt_of_le (hB k h) hgw3.size) (hs.later hgw3) hn
  obtain ⟨by_, hby⟩ : ∃ k, k = W.heap.size := ⟨_, rfl⟩
  rw [← hby] at hy3
  have HBY := Lib.hid hby
  have hBl := hB1.lt
  have hPl := hP1.lt
  have hyl := hy3.lt
  have hsz3 := hgw3.size
  clear hg3 hg0 hy0 hsw P0 P1 P2 Q0 P0' P1' P2' Q0'
  gi_wp2_with fail
  rw [← hby]
  have hOy : ¬ O by_ := fun h => by have := hOl _ h; omega
  clear hby
  refine wp_range (gf := 71) (lb := #[.pointer (some ⟨p1, 0, none⟩), .pointer (some ⟨b1, 0, none⟩)]) rfl (enters_of Tryd.func71 (by kernel_rfl) rfl) rfl hseq ?gInp O ?gO (fun k h => by have := hOl k h; omega)
    (fun m pre W' => J m pre W' ∧ Has W' by_ [.func (.yield l) #[] #[]]) (fun m c pre W' => c = .ret ∧ Jx m pre W') ?gI ?gIx ?gh0
    (fun v => { tmps := #[.func (.yield l) #[] #[], .pointer (some ⟨bb, 0, none⟩), .pointer (some ⟨bp, 0, none⟩), .pointer (some ⟨by_, 0, none⟩), v, .slice A n c, .agg #[.int .i64 p.mn, .int .i64 p.av, .int .i64 p.mx],
      .func (.func 71) #[] #[.pointer (some ⟨p1, 0, none⟩), .pointer (some ⟨b1, 0, none⟩)], v, undef, undef, undef, undef, undef], defers := [] })
    ?gassign ?gA ?gbody ?gdone ?gstop
  case gInp =>
    rintro k (rfl | rfl | rfl | h)
    · omega
    · omega
    · omega
    · have := hB k h; omega
  case gO =>
    rintro k (rfl | rfl | h) h'
    · have := hOl _ h'; omega
    · have := hOl _ h'; omega
    · exact hO k (.inr (.inr h)) h'
  case gI =>
    rintro m pre A' B' ⟨h1, h2⟩ ht
    exact ⟨hJ _ _ _ _ h1 (ht.mono fun k _ h => ⟨Nat.le_trans hsz3 h.1, h.2⟩), h2.turned ht (fun h => by have := h.1; omega)⟩
  case gIx =>
    rintro m c pre A' B' ⟨h1, h2⟩ ht
    exact ⟨h1, hJx _ _ _ _ h2 (ht.mono fun k _ h => ⟨Nat.le_trans hsz3 h.1, h.2⟩)⟩
  case gh0 => exact fun m W1 h1 h2 hg => ⟨h0 m W1 (Nat.le_trans hsz3 h1) h2 (Grows.trans hgw3 hg), hy3.later hg⟩
  case gassign =>
    intro l v W K hK
    gi_wp2
    exact hK
  case gA =>
    rintro m W0 x v A' B' _ _ ⟨Ax, cx, rfl, h1, h2⟩ ht
    exact ⟨Ax, cx, rfl, h1, h2.turned ht (fun k hk h => by have := h.1; have := hB k hk; omega)⟩
  case gdone =>
    rintro D m W4 hm hmW rfl ⟨hj, hy⟩ hD
    gi_wp2
    refine marks_end hD (fun u => results_none rfl _ _ _) ⟨⟨_, rfl⟩, m, by omega, by simpa using hmW, .inl (hJ _ _ _ _ hj (turns_putObj W4 _ _ ⟨by omega, by omega⟩))⟩
  case gstop =>
    rintro D m c pre W4 hm hmW rfl hpre ⟨rfl, hj⟩ hD
    gi_wp2
    refine marks_ret hD (fun u => results_none rfl _ _ _) ⟨⟨_, rfl⟩, m, by omega, by simpa using hmW, .inr ⟨pre, hpre, hJx _ _ _ _ hj (turns_putObj W4 _ _ ⟨by omega, by omega⟩)⟩⟩
  case gbody =>
    rintro l' m pre x v W0 W4 hm hmW0 _ ⟨hj, hy⟩ hT0 hpre ⟨Ax, cx, rfl, hxc, hLx⟩
    have hmW := Nat.le_trans hmW0 hT0.size
    have hlen : x.length ≤ 1000000 := by
      have h1 := chunks_flat p bs
      obtain ⟨t, ht⟩ := hpre
      have := congrArg List.length h1
      rw [← ht] at this
      simp at this
      omega
    have hyd := hy.drew
    have hyc := hyd.cell (k := 0) rfl
    have hgd : Grows W4 W4.drew := (Grows.refl W4).drew
    have CL := bclone_any Ax x.length cx x W4.drew rfl ((hLx.lies (B := W4.heap.size) (fun k h => by have := hB k h; omega)).later hgd) (by omega)
    have mixed : Tryd.prog.follows .mixedOrders = true := by kernel_rfl
    have YY : Hid (∀ v5 w5, Grows W4.drew w5 → w5.ownsRow W4.drew.heap.size 5 1 v5 x.length (x.map bv) → YieldAt Fence.wide 0 Tryd.prog l #[v5] w5 fun e W' => ∃ q : Bool, e = .returned (.bool q) ∧ Turns (Rnd O m) w5 W' ∧ ((q = true ∧ J m (pre ++ [x]) W') ∨ (q = false ∧ Jx m (pre ++ [x]) W'))) := fun v5 w5 hg5 ho5 =>
      (hY m pre x v5 W4 w5 (by omega) hmW hj (Grows.trans hgd hg5) hpre ho5).mono (fun e W' h => by
        rcases h with ⟨rfl, h1, h2⟩ | ⟨rfl, h1, h2⟩
        · exact ⟨true, rfl, h2, .inl ⟨rfl, h1⟩⟩
        · exact ⟨false, rfl, h2, .inr ⟨rfl, h1⟩⟩)
    gi_wp2_with fail
    gi_region_with_o (first | (refine call_round CL ?_; clear CL; rintro e w5 ⟨v5, rfl, ho5, hg5⟩; have hyc5 := hcell_later hyc hg5; obtain ⟨fn, tmps, assign, body, hyy, hR⟩ := YY.out v5 w5 hg5 ho5) | (refine ⟨rfl, RoundIn.mono (F := Fence.wide.inRound l') hR ?_⟩; clear hR hyy; rintro e W6 ⟨q, rfl, hT6, h6⟩))
    all_goals (
      have hT7 := (Turns.of_grows (S := Rnd O m) (Grows.trans hgd hg5)).trans hT6
      have hy7 := hy.turned hT7 (fun h => h.elim hOy (fun h => by omega))
      rcases h6 with ⟨rfl, hj7⟩ | ⟨rfl, hj7⟩
      · gi_wp2
        exact ⟨hT7, hj7, hy7⟩
      · gi_wp2
        exact ⟨hT7, rfl, hj7⟩)

theorem all_seq (p : Prm) (hp : p.Ok) (bb bp : Nat) (ok : Nat → Prop) (A : Option Addr) (n c : Nat) (bs : List UInt8) (w : World) (hbb : Has w bb [.slice A n c]) (hbp : Has w bp [.int .i64 p.mn, .int .i64 p.av, .int .i64 p.mx])
    (hl : bs.length = n) (hnc : n ≤ c) (hr : LiesIn ok w A (bs.map bv)) (hB : ∀ k, ok k → k < w.heap.size) (hs : Starts w) (hn : n ≤ 1000000) :
    SeqOf Tryd.prog 80 #[.pointer (some ⟨bb, 0, none⟩), .pointer (some ⟨bp, 0, none⟩)] Cpy (chunksOf p bs) (ChInp bb bp ok) w := fun O W hg hO hOl =>
  all_at p hp bb bp ok A n c bs O W (hbb.later hg) (hbp.later hg) hl hnc (hr.later hg) (fun k h => Nat.lt_of_lt_of_le (hB k h) hg.size) (hs.later hg) hn hO hOl

/-- What cut.All hands back. -/
theorem all_any (p : Prm) (hp : p.Ok) (A : Option Addr) (n c : Nat) (bs : List UInt8) (w : World) (hl : bs.length = n) (hnc : n ≤ c) (hr : Lies w w.heap.size A (bs.map bv)) (hs : Starts w) (hn : n ≤ 1000000) :
    Calls Tryd.prog 51 #[.slice A n c, pv p] w fun e w' => ∃ bb bp, e = .returned (.func (.func 80) #[] #[.pointer (some ⟨bb, 0, none⟩), .pointer (some ⟨bp, 0, none⟩)]) ∧ w.heap.size ≤ bb ∧ w.heap.size ≤ bp ∧ bb < w'.heap.size ∧ bp < w'.heap.size ∧
      SeqOf Tryd.prog 80 #[.pointer (some ⟨bb, 0, none⟩), .pointer (some ⟨bp, 0, none⟩)] Cpy (chunksOf p bs) (fun k => w.heap.size ≤ k ∧ k < w'.heap.size ∨ k = 0) w' ∧ Grows w w' := by
  have h2 := Has.new w 24 [.int .i64 (p.mn : Int), .int .i64 (p.av : Int), .int .i64 (p.mx : Int)]
  have g2 := grows_alloc w (.cells [.int .i64 (p.mn : Int), .int .i64 (p.av : Int), .int .i64 (p.mx : Int)].toArray 24)
  have CL := bclone_any A n c bs (w.alloc (.cells [.int .i64 (p.mn : Int), .int .i64 (p.av : Int), .int .i64 (p.mx : Int)].toArray 24)) hl (hr.later g2) (by omega)
  rw [World.size_alloc] at CL
  unfold pv pz
  go_enter Tryd.func51, Tryd.ntmps51
  go_wp2_with fail
  refine CL.mono ?_
  rintro e w1 ⟨v, rfl, hown, hg1⟩
  have h3 := h2.later hg1
  have g3 := Grows.trans g2 hg1
  have h4 := Has.new w1 22 [v]
  have g4 := grows_alloc w1 (.cells [v].toArray 22)
  have h5 := h3.later g4
  have g5 := Grows.trans g3 g4
  obtain ⟨A', c', rfl, hnc'⟩ := own_form hown
  have hseq := all_seq p hp w1.heap.size w.heap.size (fun k => w.heap.size + 1 ≤ k ∧ k < w1.heap.size) A' n c' bs (w1.alloc (.cells #[.slice A' n c'] 22)) h4 h5 hl hnc' ((LiesIn.of_own hown).later g4) (fun k h => by rw [World.size_alloc]; omega) (hs.later g5) hn
  have hsz := g3.size
  go_wp2_with fail
  go_ret
  refine ⟨_, _, rfl, hsz, Nat.le_refl _, by simp, by simp; omega, fun O W hg hO hOl => hseq O W hg (fun k hk => hO k ?_) hOl, g5⟩
  rw [World.size_alloc]
  rcases hk with rfl | rfl | rfl | ⟨h1, h2⟩
  · exact .inl ⟨hsz, by omega⟩
  · exact .inl ⟨Nat.le_refl _, by omega⟩
  · exact .inr rfl
  · exact .inl ⟨by omega, by omega⟩
end Go.Proofs.YtnokloedbckijaaDoor

/-
  Lists of pieces of bytes in memory; the law's collect, same; lives.
-/
namespace Go.Proofs.YtnokloedbckijaaDoor
open Go.RowKit Go.Shelf
set_option linter.unusedVariables false
set_option maxRecDepth 20000
attribute [local go_sem] Oper.semAt_some

theorem slc_info : (Tryd.prog.info? 22).map (fun i => (i.zero, i.size, i.bytes)) = some (some (Value.slice none 0 0), 1, 24) := by kernel_rfl
/-- The pieces l, one by one, the cells es of a row. -/
def Each (ok : Nat → Prop) (w : World) (es : List Value) (l : List (List UInt8)) : Prop := es.length = l.length ∧ ∀ (i : Nat) (x : List UInt8), l[i]? = some x → ∃ (A : Option Addr) (c : Nat), es[i]? = some (Value.slice A x.length c) ∧ x.length ≤ c ∧ LiesIn ok w A (x.map bv)
/-- The value v is a row of its own of the pieces l, which lie apart from it. -/
def PcsIn (base : Nat) (w : World) (v : Value) (l : List (List UInt8)) : Prop := ∃ es, w.ownsRow base 22 1 v l.length es ∧ Each (fun k => base ≤ k ∧ v.ownBlock ≠ some k) w es l
/-- The value v is a slice of the pieces l. -/
def Pcl (w : World) (v : Value) (l : List (List UInt8)) : Prop := ∃ A c es, v = .slice A l.length c ∧ l.length ≤ c ∧ Lies w w.heap.size A es ∧ Each (fun k => k < w.heap.size) w es l
theorem Each.mono {ok ok' : Nat → Prop} {w : World} {es : List Value} {l : List (List UInt8)} (h : Each ok w es l) (hk : ∀ k, k < w.heap.size → ok k → ok' k) : Each ok' w es l :=
  ⟨h.1, fun i x hx => let ⟨A, c, h1, h2, h3⟩ := h.2 i x hx; ⟨A, c, h1, h2, fun j u hu => let ⟨ad, e, ho, hc⟩ := h3 j u hu; ⟨ad, e, hk _ (by have := World.block_lt_of_cell? w _ hc; rwa [add_block] at this) ho, hc⟩⟩⟩
theorem Each.turned {ok S : Nat → Prop} {w w' : World} {es : List Value} {l : List (List UInt8)} (h : Each ok w es l) (ht : Turns S w w') (hS : ∀ k, ok k → ¬ S k) : Each ok w' es l :=
  ⟨h.1, fun i x hx => let ⟨A, c, h1, h2, h3⟩ := h.2 i x hx; ⟨A, c, h1, h2, h3.turned ht hS⟩⟩
theorem Each.later {ok : Nat → Prop} {w w' : World} {es : List Value} {l : List (List UInt8)} (h : Each ok w es l) (hg : Grows w w') : Each ok w' es l :=
  ⟨h.1, fun i x hx => let ⟨A, c, h1, h2, h3⟩ := h.2 i x hx; ⟨A, c, h1, h2, h3.later hg⟩⟩
theorem Each.nil (ok : Nat → Prop) (w : World) : Each ok w [] [] := ⟨rfl, fun i x h => by simp at h⟩
theorem Each.snoc {ok : Nat → Prop} {w : World} {es : List Value} {l : List (List UInt8)} (h : Each ok w es l) {A : Option Addr} {c : Nat} {x : List UInt8} (hc : x.length ≤ c) (hx : LiesIn ok w A (x.map bv)) : Each ok w (es ++ [.slice A x.length c]) (l ++ [x]) := by
  refine ⟨by simp [h.1], fun i y hy => ?_⟩
  rcases Nat.lt_or_ge i l.length with hi | hi
  · rw [List.getElem?_append_left hi] at hy
    obtain ⟨A', c', h1, h2, h3⟩ := h.2 i y hy
    exact ⟨A', c', by rw [List.getElem?_append_left (by rw [h.1]; exact hi)]; exact h1, h2, h3⟩
  · have h4 := (List.getElem?_eq_some_iff.1 hy).1
    have hi' : i = l.length := by simp at h4; omega
    subst hi'
    rw [List.getElem?_append_right (Nat.le_refl _), Nat.sub_self] at hy
    have : x = y := by simpa using hy
    subst this
    exact ⟨A, c, by rw [List.getElem?_append_right (by rw [h.1]; exact Nat.le_refl _), h.1, Nat.sub_self]; rfl, hc, hx⟩
theorem PcsIn.nil (base : Nat) (w : World) : PcsIn base w (.slice none 0 0) [] := ⟨[], World.ownsRow_nil _ _ _ _, Each.nil _ _⟩
theorem PcsIn.later {base : Nat} {w w' : World} {v : Value} {l : List (List UInt8)} (h : PcsIn base w v l) (hg : Grows w w') : PcsIn base w' v l := let ⟨es, h1, h2⟩ := h; ⟨es, own_later h1 hg, h2.later hg⟩
theorem PcsIn.turned {base : Nat} {S : Nat → Prop} {w w' : World} {v : Value} {l : List (List UInt8)} (h : PcsIn base w v l) (ht : Turns S w w') (hS : ∀ k, base ≤ k → ¬ S k) : PcsIn base w' v l :=
  let ⟨es, h1, h2⟩ := h; ⟨es, own_turned h1 ht (fun g hg => hS g (own_ge h1 g hg)), h2.turned ht (fun k hk => hS k hk.1)⟩
theorem own_base {base base' : Nat} {w : World} {e : TypeId} {size : Nat} {v : Value} {n : Nat} {xs : List Value} (h : w.ownsRow base e size v n xs) (hb : base' ≤ base) : w.ownsRow base' e size v n xs :=
  ⟨h.1, h.2.imp id fun ⟨g, cap, cur, h1, h2, h3⟩ => ⟨g, cap, cur, h1, by omega, h3⟩⟩
theorem PcsIn.base {base base' : Nat} {w : World} {v : Value} {l : List (List UInt8)} (h : PcsIn base w v l) (hb : base' ≤ base) : PcsIn base' w v l :=
  let ⟨es, h1, h2⟩ := h; ⟨es, own_base h1 hb, h2.mono fun k _ hk => ⟨by omega, hk.2⟩⟩
theorem PcsIn.pcl {base : Nat} {w : World} {v : Value} {l : List (List UInt8)} (h : PcsIn base w v l) : Pcl w v l := by
  obtain ⟨es, h1, h2⟩ := h
  obtain ⟨A, c, rfl, hc⟩ := own_form h1
  exact ⟨A, c, es, rfl, hc, Lies.of_own h1, h2.mono fun k hk _ => hk⟩
theorem Pcl.later {w w' : World} {v : Value} {l : List (List UInt8)} (h : Pcl w v l) (hg : Grows w w') : Pcl w' v l :=
  let ⟨A, c, es, h1, h2, h3, h4⟩ := h; ⟨A, c, es, h1, h2, h3.later hg, (h4.later hg).mono fun k hk _ => hk⟩
theorem own_lt {base : Nat} {w : World} {e : TypeId} {size : Nat} {v : Value} {n : Nat} {xs : List Value} (h : w.ownsRow base e size v n xs) : ∀ g, v.ownBlock = some g → g < w.heap.size := fun g hg => by
  rcases h.2 with ⟨rfl, _⟩ | ⟨g', cap, cur, rfl, h1, h2, _⟩
  · simp [Value.ownBlock] at hg
  · simp [Value.ownBlock] at hg
    subst hg
    exact (Array.getElem?_eq_some_iff.1 h2).1
/-- Behind an append of one piece. -/
theorem lies_grown {W W1 w4 : World} {m : Nat} {A : Option Addr} {vs : List Value} {v0 v' : Value} (h : LiesIn (fun k => m ≤ k ∧ v0.ownBlock ≠ some k) W A vs) (h1 : Grows W W1) (hg : W1.grownBy w4 v0.ownBlock) (hat : v'.ownBlock = v0.ownBlock ∨ v'.ownBlock = some W1.heap.size) :
    LiesIn (fun k => m ≤ k ∧ v'.ownBlock ≠ some k) w4 A vs := fun j u hu => by
  obtain ⟨ad, e, ⟨ho, hn⟩, hc⟩ := h j u hu
  have hc1 := hcell_later hc h1
  have hlt := World.block_lt_of_cell? W1 _ hc1
  rw [add_block] at hlt
  refine ⟨ad, e, ⟨ho, ?_⟩, hg.cell hc1 (fun e => by rw [add_block] at e; exact hn e.symm)⟩
  rcases hat with h | h
  · rw [h]; exact hn
  · rw [h]; intro e; injection e with e; omega
theorem each_grown {W W1 w4 : World} {m : Nat} {es : List Value} {l : List (List UInt8)} {v0 v' : Value} (h : Each (fun k => m ≤ k ∧ v0.ownBlock ≠ some k) W es l) (h1 : Grows W W1) (hg : W1.grownBy w4 v0.ownBlock) (hat : v'.ownBlock = v0.ownBlock ∨ v'.ownBlock = some W1.heap.size) :
    Each (fun k => m ≤ k ∧ v'.ownBlock ≠ some k) w4 es l := ⟨h.1, fun i x hx => let ⟨A, c, a, b, d⟩ := h.2 i x hx; ⟨A, c, a, b, lies_grown d h1 hg hat⟩⟩

set_option maxRecDepth 20000 in
set_option maxHeartbeats 2000000 in
theorem collect_any (p : Prm) (hp : p.Ok) (A : Option Addr) (n c : Nat) (bs : List UInt8) (w : World) (hl : bs.length = n) (hnc : n ≤ c) (hr : Lies w w.heap.size A (bs.map bv)) (hs : Starts w) (hn : n ≤ 1000000) :
    Calls Tryd.prog 19 #[.slice A n c, pv p] w fun e w' => ∃ v, e = .returned v ∧ PcsIn w.heap.size w' v (chunksOf p bs) ∧ Grows w w' := by
  have hb0 := Has.new w 24 [.int .i64 (p.mn : Int), .int .i64 (p.av : Int), .int .i64 (p.mx : Int)]
  have hg0 := grows_alloc w (.cells [.int .i64 (p.mn : Int), .int .i64 (p.av : Int), .int .i64 (p.mx : Int)].toArray 24)
  have hs0 : (w.alloc (.cells [.int .i64 (p.mn : Int), .int .i64 (p.av : Int), .int .i64 (p.mx : Int)].toArray 24)).heap.size = w.heap.size + 1 := by simp
  have hx1 := Has.new (w.alloc (.cells [.int .i64 (p.mn : Int), .int .i64 (p.av : Int), .int .i64 (p.mx : Int)].toArray 24)) 27 [.slice none 0 0]
  have hgx := grows_alloc (w.alloc (.cells [.int .i64 (p.mn : Int), .int .i64 (p.av : Int), .int .i64 (p.mx : Int)].toArray 24)) (.cells [.slice none 0 0].toArray 27)
  have hb1 := hb0.later hgx
  have P0 := hb1.cell (k := 0) rfl
  have P1 := hb1.cell (k := 1) rfl
  have P2 := hb1.cell (k := 2) rfl
  have hg1 := Grows.trans hg0 hgx
  have AL := fun u (h : Grows w u) => all_any p hp A n c bs u hl hnc (hr.later h) (hs.later h) hn
  have hpz : pv p = .agg #[.int .i64 p.mn, .int .i64 p.av, .int .i64 p.mx] := rfl
  rw [hpz] at *
  have AL := Lib.hid AL
  rw [hs0] at hx1
  refine calls_marks Tryd.func19 rfl ?_
  simp only [Tryd.ntmps19, List.size_toArray, List.length_cons, List.length_nil, Nat.reduceAdd, Nat.reduceSub, Array.replicate_succ, Array.replicate_zero, List.push_toArray, List.append_toArray, List.nil_append, List.cons_append]
  gi_wp2_with fail
  refine call_wide (AL.out _ hg1) ?_
  rintro e w3 ⟨bb, bp, rfl, hbb, hbp, hbl, hpl, hseq, hg3⟩
  have hx3 := hx1.later hg3
  have hgw3 := Grows.trans hg1 hg3
  have hfe : ∀ u, (binOp .eql 87 (.func (.func 80) #[] #[.pointer (some ⟨bb, 0, none⟩), .pointer (some ⟨bp, 0, none⟩)]) .nilFunc).run Tryd.prog u = .ok (.bool false) u := fun u => by kernel_rfl
  have hxl := hx3.lt
  have hz := hs.pos
  have hsz3 := hgw3.size
  have hsz1 := hg1.size
  have hbx1 : w.heap.size + 1 < (w.alloc (.cells [.int .i64 (p.mn : Int), .int .i64 (p.av : Int), .int .i64 (p.mx : Int)].toArray 24)).heap.size + 1 := by rw [hs0]; omega
  rw [← World.size_alloc (w.alloc (.cells [.int .i64 (p.mn : Int), .int .i64 (p.av : Int), .int .i64 (p.mx : Int)].toArray 24)) (.cells [.slice none 0 0].toArray 27)] at hbx1
  gi_wp2_with fail
  obtain ⟨bx, hbx⟩ : ∃ k, k = w.heap.size + 1 := ⟨_, rfl⟩
  rw [← hbx] at hx3 hxl hbx1 ⊢
  have hbx0 : w.heap.size < bx := by omega
  clear hbx
  refine wp_range (gf := 80) (lb := #[.pointer (some ⟨bb, 0, none⟩), .pointer (some ⟨bp, 0, none⟩)]) rfl (enters_of Tryd.func80 (by kernel_rfl) rfl) rfl hseq ?gInp (fun k => k = bx) ?gO (fun k h => by rw [h]; exact hxl)
    (fun m pre W => ∃ v, Has W bx [v] ∧ PcsIn m W v pre ∧ Grows w W) (fun _ _ _ _ => False) ?gI (fun _ _ _ _ _ h _ => h) ?gh0
    (fun v => { tmps := #[.slice A n c, .agg #[.int .i64 p.mn, .int .i64 p.av, .int .i64 p.mx], undef, .pointer (some ⟨w.heap.size, 0, none⟩), .slice none 0 0, .pointer (some ⟨bx, 0, none⟩), .func (.func 80) #[] #[.pointer (some ⟨bb, 0, none⟩), .pointer (some ⟨bp, 0, none⟩)], v, .slice A n c,
      .agg #[.int .i64 p.mn, .int .i64 p.av, .int .i64 p.mx], .func (.func 80) #[] #[.pointer (some ⟨bb, 0, none⟩), .pointer (some ⟨bp, 0, none⟩)], .func (.func 80) #[] #[.pointer (some ⟨bb, 0, none⟩), .pointer (some ⟨bp, 0, none⟩)], .bool false,
      .func (.func 80) #[] #[.pointer (some ⟨bb, 0, none⟩), .pointer (some ⟨bp, 0, none⟩)], v, undef, undef, undef, undef, undef], defers := [] })
    ?gassign ?gA ?gbody ?gdone (fun _ _ _ _ _ _ _ _ _ h _ => h.elim)
  case gInp => rintro k (⟨_, h⟩ | rfl) <;> omega
  case gO => rintro k (⟨h, _⟩ | rfl) h' <;> omega
  case gI =>
    rintro m pre A' B' ⟨v, h1, h2, h3⟩ ht
    exact ⟨v, h1.turned ht (fun h => by have := h.1; omega), h2.turned ht (fun k hk h => by have := h.2; omega), turns_then_grows h3 ht (fun k h => Nat.le_trans hsz3 h.1)⟩
  case gh0 => exact fun m W1 _ _ hg => ⟨_, hx3.later hg, PcsIn.nil _ _, Grows.trans hgw3 hg⟩
  case gassign =>
    intro l v W K hK
    gi_wp2
    exact hK
  case gA =>
    rintro m W0 x v A' B' h1 h2 h ht
    exact own_turned h ht (fun g hg h => by have := own_ge ‹_› g hg; have := h.2; omega)
  case gdone =>
    rintro D m W4 hm hmW rfl ⟨v, hx, hrow, hgw⟩ hD
    have hc := hx.cell (k := 0) rfl
    gi_wp2
    have ht := turns_putObj (S := fun k => k = w3.heap.size) W4 w3.heap.size (.deferred none) rfl
    exact marks_ret hD (fun u => results_tmp rfl _ _ _) ⟨v, rfl, (hrow.turned ht (fun k hk h => by omega)).base (by omega), turns_then_grows hgw ht (fun k h => by rw [h]; exact hsz3)⟩
  case gbody =>
    rintro l' m pre x v W0 W4 hm hmW0 ⟨v0, hx0, ⟨es, hown0, heach0⟩, hgw0⟩ _ hT0 hpre hav
    have hx := hx0.turned hT0 (fun h => by have := h.1; omega)
    have hown := own_turned hown0 hT0 (fun g hg h => by have := own_ge hown0 g hg; have := h.2; omega)
    have heach := heach0.turned hT0 (fun k hk h => by have := hk.1; have := h.2; omega)
    have hgw := turns_then_grows hgw0 hT0 (fun k h => Nat.le_trans hsz3 h.1)
    have hmW := Nat.le_trans hmW0 hT0.size
    have hlt0 := fun g hg => (own_lt hown0 g hg : g < W0.heap.size)
    have hav' : W4.ownsRow W0.heap.size 5 1 v x.length (x.map bv) := hav
    obtain ⟨Ax, cx, rfl, hxc⟩ := own_form hav'
    have hlx := LiesIn.of_own hav'
    clear hx0 heach0 hgw0 hav hT0
    have hlen : pre.length + 1 ≤ 1000000 := by
      have h1 := hpre.length_le
      have h2 := chunks_len p bs
      rw [List.length_append, List.length_singleton] at h1
      omega
    have hc := hx.cell (k := 0) rfl
    obtain ⟨i0, hi0, hz0, hz1, hz2⟩ := info_parts slc_info
    have HC := fun (w4 : World) (h : (W4.alloc (.cells #[.slice Ax x.length cx] 22)).grownBy w4 v0.ownBlock) => coll_app (row := none) hx (by omega) hown (grows_alloc W4 _) h
    have HE := fun (v' : Value) (w4 : World) (h : (W4.alloc (.cells #[.slice Ax x.length cx] 22)).grownBy w4 v0.ownBlock) (hat : v'.ownBlock = v0.ownBlock ∨ v'.ownBlock = some (W4.alloc (.cells #[.slice Ax x.length cx] 22)).heap.size) =>
      (show Each (fun k => m ≤ k ∧ v'.ownBlock ≠ some k) w4 (es ++ [.slice Ax x.length cx]) (pre ++ [x]) from (each_grown heach (grows_alloc W4 _) h hat).snoc hxc (lies_grown (v0 := v0) (fun j u hu => by
        obtain ⟨ad, e, ⟨h1, h2⟩, h3⟩ := hlx j u hu
        exact ⟨ad, e, ⟨by omega, fun e => by have := hlt0 _ e; omega⟩, h3⟩) (grows_alloc W4 _) h hat))
    have HLN : Hid ((pre ++ [x]).length = pre.length + 1) := by show _ = _; simp
    have HC := Lib.hid HC
    have HE := Lib.hid HE
    gi_wp2_with (gi_at_builtin; go_loud (refine wpListIn_append_own_at _ rfl (.tmp 15) (.tmp 17) _ rfl m 22 i0 _ 1 24 Tryd.underlying27 hi0 hz0 hz1 hz2 rfl (by decide) v0 pre.length _ rfl (hown.alloc _) ⟨W4.heap.size, 0, none⟩ 1 1 [.slice Ax x.length cx] rfl rfl (cell_one_new _ _ _) (by simp [Value.oneCell']) (by unfold maxLen; omega) (by omega) (by rw [World.size_alloc]; omega) ?_; intro v' w4 hown' hg' hnil' hat'; obtain ⟨hx4, ht4⟩ := HC.out w4 hg'; have he4 := HE.out v' w4 hg' hat'; have hc4 := hx4.cell (k := 0) rfl; have hf4 := hx4.free 0; obtain ⟨hx5, ho5, ht5⟩ := coll_set hx4 (by omega) hown' ht4; have he5 := he4.turned (Turns.of_set (S := fun k => k = bx) (b := bx) (o := 0) w4 v' rfl) (fun k hk h => by have := hk.1; omega); obtain ⟨A5, c5, rfl, _⟩ := own_form hown'))
    exact ⟨ht5, _, hx5, ⟨_, by rw [HLN.out]; exact ho5, he5⟩, turns_then_grows hgw ht5 (fun k h => h.elim (fun h => by omega) (fun h => by omega))⟩
end Go.Proofs.YtnokloedbckijaaDoor

/-
  The law's same; the reference's SameInts; lives.
-/
namespace Go.Proofs.YtnokloedbckijaaDoor
open Go.RowKit
set_option linter.unusedVariables false
set_option maxRecDepth 20000

set_option maxRecDepth 20000 in
set_option maxHeartbeats 1000000 in
theorem same_eq (va vb : Value) (l : List (List UInt8)) (w : World) (ha : Pcl w va l) (hb : Pcl w vb l) (hn : l.length ≤ 1000000) :
    Calls Tryd.prog 18 #[va, vb] w fun e w' => e = .returned (.bool true) ∧ Grows w w' := by
  obtain ⟨A, c, es, rfl, hc, hL, hE⟩ := ha
  obtain ⟨B, d, fs, rfl, hd, hM, hF⟩ := hb
  have HN := Lib.hid (show l.length = l.length from rfl)
  obtain ⟨n, hnn⟩ : ∃ n, n = l.length := ⟨_, rfl⟩
  rw [← hnn] at hn hc hd ⊢
  have HNN := Lib.hid hnn
  clear hnn HN
  go_enter Tryd.func18, Tryd.ntmps18
  go_wp2
  go_loopw [5] (fun i wr => ∃ k : Nat, k ≤ n ∧ i = .int .i64 (k : Int) ∧ Grows w wr) (fun i _ => n - (intOf i).toNat)
  case atStart => exact ⟨0, Nat.zero_le _, rfl, Grows.refl _⟩
  case round =>
    obtain ⟨k, hk, rfl, hg⟩ := hrel
    by_cases hlt : k < n
    · obtain ⟨x, hx⟩ : ∃ x, l[k]? = some x := ⟨_, List.getElem?_eq_getElem (by rw [← HNN.out]; exact hlt)⟩
      obtain ⟨Ax, cx, e1, hxc, hLx⟩ := hE.2 k x hx
      obtain ⟨Ay, cy, e2, hyc, hLy⟩ := hF.2 k x hx
      obtain ⟨ad, rfl, _, c1⟩ := hL.at_ e1
      obtain ⟨ad2, rfl, _, c2⟩ := hM.at_ e2
      have hki : (k : Int) < (n : Int) := by omega
      have f1 : ∀ u, Grows wr.drew u → u.cell? (ad.add k) = some (.slice Ax x.length cx) := fun u h => hcell_later c1 (Grows.trans hg (Grows.trans (Grows.refl wr).drew h))
      have f2 : ∀ u, Grows wr.drew u → u.cell? (ad2.add k) = some (.slice Ay x.length cy) := fun u h => hcell_later c2 (Grows.trans hg (Grows.trans (Grows.refl wr).drew h))
      have v1 : ∀ u, Grows wr.drew u → (convert 22 9 (.slice Ax x.length cx)).run Tryd.prog u = .ok (.string ⟨x.toArray⟩) u := fun u h =>
        run_string_of u 22 5 Tryd.underlying22 Tryd.underlying5 9 Tryd.underlying9 _ Ax x.length cx x rfl ((hLx.lies fun _ h => h).later (Grows.trans hg (Grows.trans (Grows.refl wr).drew h)))
      have v2 : ∀ u, Grows wr.drew u → (convert 22 9 (.slice Ay x.length cy)).run Tryd.prog u = .ok (.string ⟨x.toArray⟩) u := fun u h =>
        run_string_of u 22 5 Tryd.underlying22 Tryd.underlying5 9 Tryd.underlying9 _ Ay x.length cy x rfl ((hLy.lies fun _ h => h).later (Grows.trans hg (Grows.trans (Grows.refl wr).drew h)))
      have hO := Grows.refl wr.drew
      go_wp2_with fail
      refine wp_region_ord 11 [(0, true), (1, true), (2, true), (3, true), (4, true), (5, true), (6, true), (7, true), (8, true), (9, true), (10, true)] (by kernel_rfl) (by kernel_rfl) ?_
      repeat (first | (refine ord_take hO _ ?_ (by simp only [List.getElem?_cons_succ, List.getElem?_cons_zero]; rfl) (by rfl) ?_ ?_; rotate_left; (· (intro u hu0 hu; (try go_simp); (try with_reducible rfl))); try simp only [Act.put, List.setIfInBounds_toArray, List.set_cons_zero, List.set_cons_succ]) | (refine ord_skip _ (by simp only [List.getElem?_cons_succ, List.getElem?_cons_zero]; rfl) (by rfl) ?_; try simp only [Act.put, List.setIfInBounds_toArray, List.set_cons_zero, List.set_cons_succ]))
      refine ord_done (fun w4 hu => ?_); simp only [List.drop_succ_cons, List.drop_zero]
      have hg4 := Grows.trans hg (Grows.trans (Grows.refl wr).drew hu)
      clear f1 f2 v1 v2 hO hu
      go_wp2_with fail
      refine NoPanic.normal ?_
      go_wp2_with fail
      go_roundw
      case rel => exact ⟨k + 1, by omega, by go_num, hg4⟩
      case measure => simp [intOf]; omega
    · have hkn : k = n := by omega
      subst hkn
      have d1 : decide ((k : Int) < (k : Int)) = false := by simp
      go_wp2_with fail
      go_ret
      exact ⟨rfl, hg⟩

set_option maxRecDepth 20000 in
set_option maxHeartbeats 1000000 in
theorem sameints_eq (A B : Option Addr) (n c d : Nat) (l : List Int) (w : World) (hl : l.length = n) (hL : Lies w w.heap.size A (l.map fun x => .int .i64 x)) (hM : Lies w w.heap.size B (l.map fun x => .int .i64 x)) (hn : n ≤ 1000000) :
    Calls Tryd.prog 52 #[.slice A n c, .slice B n d] w fun e w' => e = .returned (.bool true) ∧ Grows w w' := by
  have HL := Lib.hid hl
  clear hl
  go_enter Tryd.func52, Tryd.ntmps52
  go_wp2
  go_loopw [5] (fun i wr => ∃ k : Nat, k ≤ n ∧ i = .int .i64 (k : Int) ∧ Grows w wr) (fun i _ => n - (intOf i).toNat)
  case atStart => exact ⟨0, Nat.zero_le _, rfl, Grows.refl _⟩
  case round =>
    obtain ⟨k, hk, rfl, hg⟩ := hrel
    by_cases hlt : k < n
    · obtain ⟨x, hx⟩ : ∃ x, l[k]? = some x := ⟨_, List.getElem?_eq_getElem (by rw [HL.out]; exact hlt)⟩
      obtain ⟨ad, rfl, _, c1⟩ := hL.at_ (j := k) (u := .int .i64 x) (by rw [List.getElem?_map, hx]; rfl)
      obtain ⟨ad2, rfl, _, c2⟩ := hM.at_ (j := k) (u := .int .i64 x) (by rw [List.getElem?_map, hx]; rfl)
      have hki : (k : Int) < (n : Int) := by omega
      have f1 : ∀ u, Grows wr.drew u → u.cell? (ad.add k) = some (.int .i64 x) := fun u h => hcell_later c1 (Grows.trans hg (Grows.trans (Grows.refl wr).drew h))
      have f2 : ∀ u, Grows wr.drew u → u.cell? (ad2.add k) = some (.int .i64 x) := fun u h => hcell_later c2 (Grows.trans hg (Grows.trans (Grows.refl wr).drew h))
      have hO := Grows.refl wr.drew
      go_wp2_with fail
      refine wp_region_ord 9 [(0, true), (1, true), (2, true), (3, true), (4, true), (5, true), (6, true), (7, true), (8, true)] (by kernel_rfl) (by kernel_rfl) ?_
      repeat (first | (refine ord_take hO _ ?_ (by simp only [List.getElem?_cons_succ, List.getElem?_cons_zero]; rfl) (by rfl) ?_ ?_; rotate_left; (· (intro u hu0 hu; (try go_simp); (try with_reducible rfl))); try simp only [Act.put, List.setIfInBounds_toArray, List.set_cons_zero, List.set_cons_succ]) | (refine ord_skip _ (by simp only [List.getElem?_cons_succ, List.getElem?_cons_zero]; rfl) (by rfl) ?_; try simp only [Act.put, List.setIfInBounds_toArray, List.set_cons_zero, List.set_cons_succ]))
      refine ord_done (fun w4 hu => ?_); simp only [List.drop_succ_cons, List.drop_zero]
      have hg4 := Grows.trans hg (Grows.trans (Grows.refl wr).drew hu)
      clear f1 f2 hO hu
      go_wp2_with fail
      refine NoPanic.normal ?_
      go_wp2_with fail
      go_roundw
      case rel => exact ⟨k + 1, by omega, by go_num, hg4⟩
      case measure => simp [intOf]; omega
    · have hkn : k = n := by omega
      subst hkn
      have d1 : decide ((k : Int) < (k : Int)) = false := by simp
      go_wp2_with fail
      go_ret
      exact ⟨rfl, hg⟩

def p222 : Prm := ⟨2, 2, 2⟩
theorem p222_ok : p222.Ok := ⟨by decide, by decide, by decide, by decide⟩
theorem chunks222 : (chunksOf p222 [97, 98, 99, 100, 101]).map List.length = [2, 2, 1] := by decide +kernel
theorem abcde_marked (w : World) : Lies (w.alloc (.cells (([97, 98, 99, 100, 101] : List UInt8).map bv).toArray 5 (5, 6))) (w.heap.size + 1) (some ⟨w.heap.size, 0, none⟩) (([97, 98, 99, 100, 101] : List UInt8).map bv) ∧
    Grows w (w.alloc (.cells (([97, 98, 99, 100, 101] : List UInt8).map bv).toArray 5 (5, 6))) := ⟨fun j u hu => ⟨_, rfl, by show w.heap.size < w.heap.size + 1; omega, by
    rw [add_plain, Nat.zero_add]
    have : (w.alloc (.cells (([97, 98, 99, 100, 101] : List UInt8).map bv).toArray 5 (5, 6))).heap[w.heap.size]? = some (.cells (([97, 98, 99, 100, 101] : List UInt8).map bv).toArray 5 (5, 6)) := World.alloc_heap_new w _
    unfold World.cell?
    rw [this]
    simpa using hu⟩, (Grows.refl w).alloc (Nat.le_refl _) _⟩
set_option maxRecDepth 20000 in
theorem lives10_any (w : World) (hs : Starts w) :
    Calls Tryd.prog 20 #[] w fun e w' => e = .returned (.bool true) ∧ Grows w w' := by
  obtain ⟨h0, g0⟩ := abcde_marked w
  have hs0 : (w.alloc (.cells (([97, 98, 99, 100, 101] : List UInt8).map bv).toArray 5 (5, 6))).heap.size = w.heap.size + 1 := by simp
  have SZ := Lib.hid (sizes_any p222 p222_ok (some ⟨w.heap.size, 0, none⟩) 5 5 [97, 98, 99, 100, 101] _ rfl (Nat.le_refl _) (h0.mono (by rw [hs0]; exact Nat.le_refl _)) (hs.later g0) (by decide))
  have hpv : pv p222 = .agg #[.int .i64 2, .int .i64 2, .int .i64 2] := rfl
  rw [hpv] at SZ
  have hcl : (chunksOf p222 [97, 98, 99, 100, 101]).length = 3 := by have := congrArg List.length chunks222; simpa using this
  have hcm : (chunksOf p222 [97, 98, 99, 100, 101]).map lenV = [2, 2, 1].map fun x => .int .i64 x := by
    have := congrArg (List.map fun n : Nat => (Value.int .i64 (n : Int))) chunks222
    rw [List.map_map] at this
    exact this
  rw [hcl, hcm] at SZ
  have hcv := Lib.run_convert_bytes_const (P := Tryd.prog) w 22 5 #[.int .u8 97, .int .u8 98, .int .u8 99, .int .u8 100, .int .u8 101] 5 5 Tryd.underlying22 Tryd.underlying5
  go_enter Tryd.func20, Tryd.ntmps20
  go_wp2_with fail
  clear hcv
  refine SZ.out.mono ?_
  rintro e w1 ⟨v, rfl, hown, hg1⟩
  obtain ⟨A, c, rfl, hc⟩ := own_form hown
  have hL := Lies.of_own hown
  have g1 := grows_alloc w1 (.cells ([2, 2, 1].map fun x => Value.int .i64 x).toArray 3)
  have hM := (Lies.new w1 3 ([2, 2, 1].map fun x => Value.int .i64 x)).mono (B' := (w1.alloc (.cells ([2, 2, 1].map fun x => Value.int .i64 x).toArray 3)).heap.size) (by simp)
  have SI := Lib.hid (sameints_eq A (some ⟨w1.heap.size, 0, none⟩) 3 c 3 [2, 2, 1] _ rfl (hL.later g1) hM (by decide))
  have hgg := Grows.trans g0 (Grows.trans hg1 g1)
  clear SZ
  go_wp2_with fail
  refine SI.out.mono ?_
  rintro e w2 ⟨rfl, hg2⟩
  have hg3 := Grows.trans hgg hg2
  go_wp2_with fail
  go_ret
  exact ⟨rfl, hg3⟩
end Go.Proofs.YtnokloedbckijaaDoor

/-
  Contract of the reference's Around: a remainder.
-/
namespace Go.Proofs.YtnokloedbckijaaDoor
open Go.RowKit
set_option linter.unusedVariables false

theorem ret_int {k : IntKind} {a b : Int} (h : a = b) : Ending.returned (.int k a) = .returned (.int k b) := by rw [h]
/-- What Around answers. -/
def around (n : Int) (m : Nat) : Nat := ((if n < 0 then -(n + 1) else n) % (m : Int)).toNat
theorem around_lt (n : Int) {m : Nat} (h : 0 < m) : around n m < m := by
  unfold around
  have h1 := Int.emod_lt_of_pos (if n < 0 then -(n + 1) else n) (show (0 : Int) < (m : Int) by omega)
  have h2 := Int.emod_nonneg (if n < 0 then -(n + 1) else n) (show (m : Int) ≠ 0 by omega)
  omega

set_option maxHeartbeats 400000 in
theorem around_any (n : Int) (m : Nat) (w : World) (hn : -9223372036854775808 ≤ n ∧ n ≤ 9223372036854775807) (hm : 0 < m ∧ m ≤ 4611686018427387904) :
    Calls Tryd.prog 29 #[.int .i64 n, .int .i64 (m : Int)] w fun e w' => e = .returned (.int .i64 (around n m : Int)) ∧ w = w' := by
  obtain ⟨n1, n2⟩ := hn
  obtain ⟨m1, m2⟩ := hm
  have hz : ((m : Int) == 0) = false := by simp; omega
  by_cases h : n < 0
  · have hr : (around n m : Int) = (-(n + 1)) % (m : Int) := by
      unfold around
      rw [if_pos h]
      have h2 := Int.emod_nonneg (-(n + 1)) (show (m : Int) ≠ 0 by omega)
      omega
    rw [hr]
    clear hr
    go_enter Tryd.func29, Tryd.ntmps29
    go_wp2
    go_ret
    exact ⟨ret_int (by rw [← Int.neg_tmod, Int.tmod_eq_emod_of_nonneg (by omega)]), rfl⟩
  · have hr : (around n m : Int) = n % (m : Int) := by
      unfold around
      rw [if_neg h]
      have h2 := Int.emod_nonneg n (show (m : Int) ≠ 0 by omega)
      omega
    rw [hr]
    clear hr
    go_enter Tryd.func29, Tryd.ntmps29
    go_wp2
    go_ret
    exact ⟨rfl, rfl⟩

end Go.Proofs.YtnokloedbckijaaDoor

/-
  The reference's Good (parameters made such as may be).
-/
namespace Go.Proofs.YtnokloedbckijaaDoor
open Go.RowKit
set_option linter.unusedVariables false
set_option maxRecDepth 20000

/-- Parameters made of any. -/
def goodP (a b c : Int) : Prm := ⟨1 + around a 12, 1 + around a 12 + around b 20, 1 + around a 12 + around b 20 + around c 40⟩
theorem goodP_ok (a b c : Int) : (goodP a b c).Ok := by
  have h1 := around_lt a (m := 12) (by decide)
  have h2 := around_lt b (m := 20) (by decide)
  have h3 := around_lt c (m := 40) (by decide)
  exact ⟨by simp [goodP], by simp [goodP], by simp [goodP], by simp only [goodP]; omega⟩
theorem goodP_mx (a b c : Int) : (goodP a b c).mx ≤ 70 := by
  have h1 := around_lt a (m := 12) (by decide)
  have h2 := around_lt b (m := 20) (by decide)
  have h3 := around_lt c (m := 40) (by decide)
  simp only [goodP]; omega
theorem prm_size : (Tryd.prog.info? 24).map (·.size) = some 3 := by kernel_rfl
theorem prm_one (a b c : Int) : ∀ v ∈ ([.int .i64 a, .int .i64 b, .int .i64 c] : List Value), v.oneCell' = true := by intro v hv; simp at hv; rcases hv with rfl | rfl | rfl <;> rfl
/-- An int of 64 bits. -/
def I64 (n : Int) : Prop := -9223372036854775808 ≤ n ∧ n ≤ 9223372036854775807
set_option maxRecDepth 20000 in
theorem good_any (a b c : Int) (w : World) (ha : I64 a) (hb : I64 b) (hc : I64 c) :
    Calls Tryd.prog 12 #[pz a b c] w fun e w' => e = .returned (pv (goodP a b c)) ∧ Grows w w' := by
  have h1 := around_lt a (m := 12) (by decide)
  have h2 := around_lt b (m := 20) (by decide)
  have h3 := around_lt c (m := 40) (by decide)
  have A1 := Lib.hid (fun u => around_any a 12 u ha (by decide))
  have A2 := Lib.hid (fun u => around_any b 20 u hb (by decide))
  have A3 := Lib.hid (fun u => around_any c 40 u hc (by decide))
  have hN := Has.new w 24 [.int .i64 a, .int .i64 b, .int .i64 c]
  have g1 := grows_alloc w (.cells [.int .i64 a, .int .i64 b, .int .i64 c].toArray 24)
  have hR := Has.new (w.alloc (.cells [.int .i64 a, .int .i64 b, .int .i64 c].toArray 24)) 24 [.int .i64 0, .int .i64 0, .int .i64 0]
  have g2 := grows_alloc (w.alloc (.cells [.int .i64 a, .int .i64 b, .int .i64 c].toArray 24)) (.cells [.int .i64 0, .int .i64 0, .int .i64 0].toArray 24)
  have hN2 := hN.later g2
  have P0 := hN2.cell (k := 0) rfl
  have P1 := hN2.cell (k := 1) rfl
  have P2 := hN2.cell (k := 2) rfl
  have hg := Grows.trans g1 g2
  rw [World.size_alloc] at hR
  have hpe : pv (goodP a b c) = .agg ([.int .i64 (1 + (around a 12 : Int)), .int .i64 (1 + (around a 12 : Int) + (around b 20 : Int)), .int .i64 (1 + (around a 12 : Int) + (around b 20 : Int) + (around c 40 : Int))] : List Value).toArray := by
    simp [pv, pz, goodP]
  rw [hpe]
  unfold pz
  generalize around a 12 = x at *
  generalize around b 20 = y at *
  generalize around c 40 = z at *
  have w1 : IntKind.i64.wrap (1 + (x : Int)) = 1 + (x : Int) := IntWalk.i64_in _ (by omega)
  have w2 : IntKind.i64.wrap (1 + (x : Int) + (y : Int)) = 1 + (x : Int) + (y : Int) := IntWalk.i64_in _ (by omega)
  have w3 : IntKind.i64.wrap (1 + (x : Int) + (y : Int) + (z : Int)) = 1 + (x : Int) + (y : Int) + (z : Int) := IntWalk.i64_in _ (by omega)
  go_enter Tryd.func12, Tryd.ntmps12
  go_wp2_with fail
  refine (A1.out _).mono ?_
  rintro e w' ⟨rfl, rfl⟩
  go_wp2_with fail
  refine (A2.out _).mono ?_
  rintro e w' ⟨rfl, rfl⟩
  go_wp2_with fail
  refine (A3.out _).mono ?_
  rintro e w' ⟨rfl, rfl⟩
  go_wp2_with (refine wpList_storev rfl 24 (.tmp 2) (.tmp 21) rfl (w.heap.size + 1) _ [.int .i64 (1 + (x : Int)), .int .i64 (1 + (x : Int) + (y : Int)), .int .i64 (1 + (x : Int) + (y : Int) + (z : Int))] 3 rfl rfl hR rfl rfl prm_size (prm_one _ _ _) ?_; intro w6 hbox6 hbel6)
  have hfin := hbel6 _ _ (by omega) hg
  refine bodyPost_ret (res_has (vs := [.int .i64 (1 + (x : Int)), .int .i64 (1 + (x : Int) + (y : Int)), .int .i64 (1 + (x : Int) + (y : Int) + (z : Int))]) Tryd.results12 _ rfl Tryd.underlying24 rfl prm_size hbox6) rfl ⟨rfl, hfin⟩
end Go.Proofs.YtnokloedbckijaaDoor

/-
  A []int that came in, as numbers that lie there (of no program).
-/
namespace Go.Proofs.YtnokloedbckijaaDoor
open Go.RowKit
set_option linter.unusedVariables false

/-- An int, whatever it is, as a value. -/
abbrev zv (z : Int) : Value := .int .i64 z
/-- What is told of a []int that came in. -/
theorem row_ints {w : World} {a : Option Addr} {len cap : Nat} {zs : List Int}
    (h : (a = none ∧ len = 0 ∧ cap = 0 ∧ zs = []) ∨ ∃ x, a = some x ∧ len ≤ cap ∧ cap ≤ maxLen ∧ zs.length = cap ∧ (∀ i, i < zs.length → w.cell? (x.add i) = some (.int .i64 (zs.getD i 0))) ∧ ∀ n ∈ zs, (Lit.int .i64 n).wf = true) :
    ∃ l : List Int, l.length = len ∧ Lies w w.heap.size a (l.map zv) ∧ len ≤ cap ∧ cap ≤ maxLen ∧ ∀ z ∈ l, -9223372036854775808 ≤ z ∧ z ≤ 9223372036854775807 := by
  rcases h with ⟨rfl, rfl, rfl, rfl⟩ | ⟨x, rfl, hl, hm, hz, hc, hw⟩
  · exact ⟨[], rfl, Lies.empty, Nat.le_refl _, Nat.zero_le _, fun _ h => by simp at h⟩
  · refine ⟨zs.take len, by simp; omega, fun j u hu => ?_, hl, hm, fun z hz' => ?_⟩
    · rw [List.getElem?_map, List.getElem?_take] at hu
      split at hu
      · rename_i hj
        have hjz : j < zs.length := by omega
        rw [List.getElem?_eq_getElem hjz] at hu
        simp at hu
        have h1 := hc j hjz
        refine ⟨x, rfl, ?_, ?_⟩
        · have := World.block_lt_of_cell? w _ h1
          rwa [add_block] at this
        · rw [h1, ← hu]
          simp [List.getElem?_eq_getElem hjz]
      · simp at hu
    · have h2 := hw z (List.mem_of_mem_take hz')
      simp [Lit.wf, IntKind.min, IntKind.max, IntKind.signed, IntKind.bits] at h2
      omega

end Go.Proofs.YtnokloedbckijaaDoor

/-
  Parameters that came in; from the row's condition (the variable starts reads as its initialiser lays it) to what the walks ask.
-/
namespace Go.Proofs.YtnokloedbckijaaDoor
open Go.RowKit
open Go.ChangeShapes Go.WideShapes
set_option linter.unusedVariables false
set_option maxRecDepth 20000

theorem i64_wf {n : Int} (h : (Lit.int .i64 n).wf = true) : I64 n := by
  simp [Lit.wf, IntKind.min, IntKind.max, IntKind.signed, IntKind.bits] at h
  exact ⟨by omega, by omega⟩
/-- Three ints that came in as a struct. -/
theorem open_int3 {H : Type} {enc : TypeId × Value → H} {P : Program} {w : World} {base b0 : Nat} {spare : Nat → Bool} {held : Bool} {r : Reach} {t : TypeId} {f0 f1 f2 : Field} {v : Value} {d : DataW H} {p : List MemPlace}
    (hs : P.underlying t = some (.struct #[f0, f1, f2])) (hone : Go.Deep.oneCellFields P #[f0, f1, f2] = true) (hC : P.cellsOf t = 3)
    (h0 : P.underlying f0.type = some (.int .i64)) (h1 : P.underlying f1.type = some (.int .i64)) (h2 : P.underlying f2.type = some (.int .i64))
    (hv : Value.okWide P w r b0 t v) (h : DataW.Trod enc P w base spare held t v d p) : ∃ a b c : Int, v = .agg #[.int .i64 a, .int .i64 b, .int .i64 c] ∧ I64 a ∧ I64 b ∧ I64 c := by
  obtain ⟨v0, v1, v2, y0, y1, y2, n, rfl, _, _, k0, k1, k2⟩ := Go.Joins.open_agg3 hs hone hC hv h
  obtain ⟨a, e0, _, w0⟩ := DataW.trod_int h0 k0
  obtain ⟨b, e1, _, w1⟩ := DataW.trod_int h1 k1
  obtain ⟨c, e2, _, w2⟩ := DataW.trod_int h2 k2
  obtain rfl : v0 = .int .i64 a := by simpa using e0
  obtain rfl : v1 = .int .i64 b := by simpa using e1
  obtain rfl : v2 = .int .i64 c := by simpa using e2
  exact ⟨a, b, c, rfl, i64_wf w0, i64_wf w1, i64_wf w2⟩
theorem gStarts : Tryd.prog.globalNamed "lighterage/roll.starts" = some 0 := by kernel_rfl
theorem tStarts : (Tryd.prog.globals[0]?).map (·.type) = some 162 := by kernel_rfl
theorem starts_tab : (Rows.laid_lighterage_roll_starts : DataW Unit) = Lib.tabData .u32 (starts16.map fun n : Nat => (n : Int)) := rfl
theorem starts_of_laid {W : World} (h : laidMetH Tryd.prog [("lighterage/roll.starts", Rows.laid_lighterage_roll_starts)] W) : Starts W := by
  rw [MakeChecks.laidMetH_plain _ _ _ (by kernel_rfl), starts_tab] at h
  have ht := Lib.tabIs_of_head gStarts tStarts Tryd.underlying162 Tryd.underlying93 (by kernel_rfl) (by kernel_rfl) h
  intro j u hu
  have hj : j < starts16.length := by have := (List.getElem?_eq_some_iff.1 hu).1; simpa using this
  have := ht.cell gStarts j (by simpa using hj)
  rw [Nat.zero_add, this, ← hu, List.getElem?_map, List.getElem?_eq_getElem hj, List.getD_eq_getElem?_getD, List.getElem?_map, List.getElem?_eq_getElem hj]
  rfl
end Go.Proofs.YtnokloedbckijaaDoor

/-
  Contracts of the reference's Power, First, Chunks.
-/
namespace Go.Proofs.YtnokloedbckijaaDoor
open Go.RowKit
set_option linter.unusedVariables false
set_option maxRecDepth 20000

theorem slc_size : (Tryd.prog.info? 22).map (·.size) = some 1 := by kernel_rfl
theorem Each.take_ {ok : Nat → Prop} {w : World} {es : List Value} {l : List (List UInt8)} (h : Each ok w es l) (k : Nat) : Each ok w (es.take k) (l.take k) := by
  refine ⟨by rw [List.length_take, List.length_take, h.1], fun i x hx => ?_⟩
  have hi := (List.getElem?_eq_some_iff.1 hx).1
  rw [List.length_take] at hi
  rw [List.getElem?_take_of_lt (by omega)] at hx ⊢
  exact h.2 i x hx
theorem pow_step {j n : Nat} (h1 : 2 ^ j ≤ n) (h2 : n < 2 * 2 ^ j) : powOf n = 2 ^ j := by
  unfold powOf
  rw [(Nat.log2_eq_iff (by have := Nat.two_pow_pos j; omega)).2 ⟨h1, by rw [Nat.pow_succ]; omega⟩]
theorem rpower_any (n : Nat) (w : World) (h1 : 1 ≤ n) (h2 : n ≤ 1000000) :
    Calls Tryd.prog 69 #[.int .i64 (n : Int)] w fun e w' => e = .returned (.int .i64 (powOf n : Int)) ∧ w = w' := by
  go_enter Tryd.func69, Tryd.ntmps69
  go_wp2
  go_loop [3] (fun v => ∃ k j : Nat, v = .int .i64 (k : Int) ∧ k ≤ n ∧ 1 ≤ k ∧ Hid (k = 2 ^ j)) (fun v => n + 1 - (intOf v).toNat)
  case atStart => exact ⟨1, 0, rfl, h1, Nat.le_refl _, rfl⟩
  case round =>
    obtain ⟨k, j, rfl, hk, hk1, HJ⟩ := hrel
    have hw : IntKind.i64.wrap (2 * (k : Int)) = 2 * (k : Int) := IntWalk.i64_in _ (by omega)
    by_cases hlt : 2 * k ≤ n
    · have e1 : decide (2 * (k : Int) ≤ (n : Int)) = true := by simp; omega
      go_wp2
      go_round
      case rel => exact ⟨2 * k, j + 1, by go_num, hlt, by omega, by show _ = _; rw [Nat.pow_succ, HJ.out, Nat.mul_comm]⟩
      case measure => simp [intOf]; omega
    · have e1 : decide (2 * (k : Int) ≤ (n : Int)) = false := by simp; omega
      have hp : powOf n = k := by rw [HJ.out]; exact pow_step (by rw [← HJ.out]; exact hk) (by rw [← HJ.out]; omega)
      go_wp2
      go_ret
      exact ⟨rfl, rfl⟩

theorem scan_end (p : Prm) (b : List UInt8) (h : ∀ j, 1 ≤ j → j < b.length → cutAt p (b.take j) = false) : (scan p [] b).1 = b.length := by
  rcases Nat.eq_zero_or_pos b.length with h0 | h0
  · obtain rfl := List.eq_nil_of_length_eq_zero h0; rfl
  · cases hc : cutAt p b with
    | true => rw [scan_find p b [] b.length h0 (Nat.le_refl _) (fun j h1 h2 => h j h1 h2) (by rw [List.take_length]; exact hc)]
    | false =>
      rw [scan_none p b [] (fun j h1 h2 => by
        rcases Nat.lt_or_ge j b.length with h3 | h3
        · exact h j h1 h3
        · rw [List.take_of_length_le h3]; exact hc)]

set_option maxRecDepth 20000 in
set_option maxHeartbeats 1000000 in
theorem rfirst_any (p : Prm) (hp : p.Ok) (A : Option Addr) (cA : Nat) (B : Option Addr) (n c : Nat) (bs : List UInt8) (w : World) (hA : Lies w w.heap.size A ((wordList 256).map uv)) (hl : bs.length = n) (hnc : n ≤ c) (hr : Lies w w.heap.size B (bs.map bv)) (hn : n ≤ 1000000) :
    Calls Tryd.prog 46 #[.slice A 256 cA, .slice B n c, pv p] w fun e w' => e = .returned (.int .i64 ((scan p [] bs).1 : Int)) ∧ Grows w w' := by
  have hN := Has.new w 24 [.int .i64 (p.mn : Int), .int .i64 (p.av : Int), .int .i64 (p.mx : Int)]
  have hg := grows_alloc w (.cells [.int .i64 (p.mn : Int), .int .i64 (p.av : Int), .int .i64 (p.mx : Int)].toArray 24)
  have P0 := hN.cell (k := 0) rfl
  have P1 := hN.cell (k := 1) rfl
  have P2 := hN.cell (k := 2) rfl
  have h1 := hp.mn; have h2 := hp.av; have h3 := hp.mx; have h4 := hp.top
  have PW := Lib.hid (fun u => rpower_any p.av u (by omega) (by omega))
  have hpw : powOf p.av ≤ 4096 := by have := powOf_le (n := p.av) (by omega); omega
  have hpp := powOf_pos p.av
  have OV : Hid (∀ k, k ≤ n → Calls Tryd.prog 70 #[.slice A 256 cA, .slice B k c] (w.alloc (.cells [.int .i64 (p.mn : Int), .int .i64 (p.av : Int), .int .i64 (p.mx : Int)].toArray 24)) fun e w' => e = .returned (uv (hashOf (bs.take k))) ∧ _ = w') := fun k hk =>
    rover_any A cA B k c (bs.take k) _ (hA.later hg) (by rw [List.length_take]; omega) (by rw [List.map_take]; exact (hr.later hg).take k) (by omega)
  have HL := Lib.hid hl
  have HFEW := Lib.hid (fun (l : List UInt8) => cut_few hp (l := l))
  have HAT : Hid (∀ k, k ≤ n → cutAt p (bs.take k) = (decide (k = p.mx) || (decide (p.mn ≤ k) && decide (hashOf (bs.take k) % powOf p.av = 0)))) := fun k hk => by
    unfold cutAt
    rw [List.length_take, hl, Nat.min_eq_left hk]; rfl
  have hpv : pv p = .agg #[.int .i64 p.mn, .int .i64 p.av, .int .i64 p.mx] := rfl
  clear hA hl hr
  rw [hpv]
  change Calls _ _ _ _ _
  go_enter Tryd.func46, Tryd.ntmps46
  go_wp2_with fail
  refine (PW.out _).mono ?_
  rintro e w' ⟨rfl, rfl⟩
  have hw32 : (powOf p.av : Int) % 4294967296 = (powOf p.av : Int) := by omega
  generalize powOf p.av = q at *
  go_wp2_with fail
  generalize w.alloc (.cells #[.int .i64 (p.mn : Int), .int .i64 (p.av : Int), .int .i64 (p.mx : Int)] 24) = w1 at *
  go_loop [8] (fun i => ∃ k : Nat, i = .int .i64 (k : Int) ∧ p.mn ≤ k ∧ k ≤ n + 4096 ∧ Hid (∀ j, 1 ≤ j → j < k → j < n → cutAt p (bs.take j) = false)) (fun i => n + 4097 - (intOf i).toNat)
  case atStart => exact ⟨p.mn, rfl, Nat.le_refl _, by omega, fun j hj1 hj2 hj3 => HFEW.out _ (by rw [List.length_take]; omega)⟩
  case round =>
    obtain ⟨k, rfl, hmk, hkn, HNO⟩ := hrel
    by_cases hlt : k < n
    · have hki : (k : Int) < (n : Int) := by omega
      have hat := HAT.out k (by omega)
      have OK := Lib.hid (OV.out k (by omega))
      have hhl := hashOf_lt (bs.take k)
      have hw64 : IntKind.i64.wrap ((k : Int) + 1) = (k : Int) + 1 := IntWalk.i64_in _ (by omega)
      have hct : ∀ u : World, (Instr.sliceAt 22 (.slice B n c) none (some (.int .i64 (k : Int))) none).run Tryd.prog u = .ok (.slice B k c) u := fun u => run_cutK_to (P := Tryd.prog) Tryd.underlying22 byte_size B n c k .i64 (by omega) u
      have HSC : Hid (cutAt p (bs.take k) = true → (scan p [] bs).1 = k) := fun h => by rw [scan_find p bs [] k (by omega) (by rw [HL.out]; omega) (fun j hj1 hj2 => by rw [List.nil_append]; exact HNO.out j hj1 hj2 (by omega)) (by rw [List.nil_append]; exact h)]
      have HCT := Lib.hid (show cutAt p (bs.take k) = cutAt p (bs.take k) from rfl)
      obtain ⟨cc, hcc⟩ : ∃ cc, cc = cutAt p (bs.take k) := ⟨_, rfl⟩
      rw [← hcc] at hat HSC
      have HCC := Lib.hid hcc
      clear hcc HCT
      by_cases hA : k = p.mx
      · have e1 : ((k : Int) == (p.mx : Int)) = true := by simp; omega
        have hcut : cc = true := by rw [hat]; simp [hA]
        have hsc := Lib.hid (HSC.out hcut)
        clear hat
        go_wp2_with fail
        go_ret
        exact ⟨congrArg (fun q : Nat => Ending.returned (.int .i64 (q : Int))) (hA.symm.trans hsc.out.symm), hg⟩
      · have e1 : ((k : Int) == (p.mx : Int)) = false := by simp; omega
        generalize hashOf (bs.take k) = h at *
        have hmd : ((h : Int) % (q : Int)) = ((h % q : Nat) : Int) := by omega
        have htd : ((h : Int).tmod (q : Int)) = ((h % q : Nat) : Int) := by rw [Int.tmod_eq_emod_of_nonneg (by omega)]; omega
        have hq0 : (q : Int) ≠ 0 := by omega
        have hq0' : ((q : Int) == 0) = false := by simp; omega
        by_cases hC : h % q = 0
        · have hcut : cc = true := by rw [hat]; simp [hC, hmk]
          have hsc := Lib.hid (HSC.out hcut)
          have e3 : (((h % q : Nat) : Int) == 0) = true := by rw [hC]; rfl
          clear hat hC
          generalize h % q = r at *
          go_wp2_with fail
          refine OK.out.mono ?_
          rintro e w' ⟨rfl, rfl⟩
          go_wp2_with fail
          go_ret
          exact ⟨congrArg (fun q : Nat => Ending.returned (.int .i64 (q : Int))) hsc.out.symm, hg⟩
        · have hcut : cc = false := by rw [hat]; simp [hA, hC]
          have e3 : (((h % q : Nat) : Int) == 0) = false := by simp; omega
          clear hat hC
          generalize h % q = r at *
          go_wp2_with fail
          refine OK.out.mono ?_
          rintro e w' ⟨rfl, rfl⟩
          go_wp2_with fail
          go_round
          case rel => exact ⟨k + 1, by go_num, by omega, by omega, fun j hj1 hj2 hj3 => by
            rcases Nat.lt_or_ge j k with h | h
            · exact HNO.out j hj1 h hj3
            · obtain rfl : j = k := by omega
              rw [← HCC.out]; exact hcut⟩
          case measure => simp [intOf]; omega
    · have d1 : decide ((k : Int) < (n : Int)) = false := by simp; omega
      have hsc : Hid ((scan p [] bs).1 = n) := by
        show _ = _
        rw [scan_end p bs (fun j hj1 hj2 => HNO.out j hj1 (by rw [HL.out] at hj2; omega) (by rw [HL.out] at hj2; exact hj2)), HL.out]
      go_wp2_with fail
      go_ret
      exact ⟨congrArg (fun q : Nat => Ending.returned (.int .i64 (q : Int))) hsc.out.symm, hg⟩

set_option maxRecDepth 20000 in
set_option maxHeartbeats 1000000 in
theorem rchunks_any (p : Prm) (hp : p.Ok) (A : Option Addr) (n c : Nat) (bs : List UInt8) (w : World) (hl : bs.length = n) (hnc : n ≤ c) (hr : Lies w w.heap.size A (bs.map bv)) (hn : n ≤ 1000000) :
    Calls Tryd.prog 13 #[.slice A n c, pv p] w fun e w' => ∃ v es, e = .returned v ∧ w'.ownsRow w.heap.size 22 1 v (chunksOf p bs).length es ∧ Each (fun k => k < w.heap.size) w' es (chunksOf p bs) ∧ Grows w w' := by
  have hN := Has.new w 24 [.int .i64 (p.mn : Int), .int .i64 (p.av : Int), .int .i64 (p.mx : Int)]
  have hg := grows_alloc w (.cells [.int .i64 (p.mn : Int), .int .i64 (p.av : Int), .int .i64 (p.mx : Int)].toArray 24)
  have RW := Lib.hid (rwords_any (w.alloc (.cells [.int .i64 (p.mn : Int), .int .i64 (p.av : Int), .int .i64 (p.mx : Int)].toArray 24)))
  have FI := Lib.hid (fun A1 cA B n c bs u h1 h2 h3 h4 h5 => rfirst_any p hp A1 cA B n c bs u h1 h2 h3 h4 h5)
  have hpv : pv p = .agg #[.int .i64 p.mn, .int .i64 p.av, .int .i64 p.mx] := rfl
  rw [hpv] at *
  go_enter Tryd.func13, Tryd.ntmps13
  go_wp2_with fail
  refine RW.out.mono ?_
  rintro e w1 ⟨A1, cA, rfl, hW1, hg1⟩
  have hN1 := hN.later hg1
  have hgw1 := Grows.trans hg hg1
  have hr1 : LiesIn (fun k => k < w.heap.size) w1 A (bs.map bv) := (LiesIn.of_lies hr (fun _ h => h)).later hgw1
  have hcl := chunks_len p bs
  obtain ⟨i0, hi0, hz0, hz1, hz2⟩ := info_parts slc_info
  clear RW hg hN hg1
  go_wp2_with fail
  go_loopw [0, 6] (fun rv lv wr => ∃ (A' : Option Addr) (n' c' : Nat) (rest : List UInt8) (T : List (List UInt8)) (es : List Value), rv = .slice A' n' c' ∧ rest.length = n' ∧ n' ≤ c' ∧ n' ≤ 1000000 ∧ LiesIn (fun k => k < w.heap.size) wr A' (rest.map bv) ∧
    Hid (chunksOf p bs = T ++ chunksOf p rest) ∧ wr.ownsRow w1.heap.size 22 1 lv T.length es ∧ Each (fun k => k < w.heap.size) wr es T ∧ Grows w1 wr) (fun rv _ _ => slen rv)
  case atStart => exact ⟨A, n, c, bs, [], [], rfl, hl, hnc, hn, hr1, rfl, World.ownsRow_nil _ _ _ _, Each.nil _ _, Grows.refl _⟩
  case round =>
    obtain ⟨A', n', c', rest, T, es, rfl, hl', hnc', hn', hr', HC, hown, heach, hgr⟩ := hrel
    obtain ⟨A5, c5, rfl, hc5⟩ := own_form hown
    by_cases hrest : rest = []
    · subst hrest
      obtain rfl : n' = 0 := by simpa using hl'.symm
      have HC' := HC.out
      rw [chunksOf_nil, List.append_nil] at HC'
      have HC' := Lib.hid HC'
      clear HC
      go_wp2_with fail
      go_ret
      exact ⟨_, es, rfl, by rw [HC'.out]; exact own_base hown hgw1.size, by rw [HC'.out]; exact heach, Grows.trans hgw1 hgr⟩
    · have hpos : 0 < n' := by rw [← hl']; exact List.length_pos_iff.2 hrest
      have d1 : decide ((n' : Int) > 0) = true := by simp; omega
      have hNr := hN1.later hgr
      have P0 := hNr.cell (k := 0) rfl
      have P1 := hNr.cell (k := 1) rfl
      have P2 := hNr.cell (k := 2) rfl
      have hgw := Grows.trans hgw1 hgr
      have hsz := hgw.size
      have FR := Lib.hid (FI.out A1 cA A' n' c' rest wr (hW1.later hgr) hl' hnc' (hr'.lies (fun k hk => by omega)) hn')
      have hk1 := scan_pos p [] hrest
      have hk2 := scan_le p rest []
      have HCC := chunksOf_cons p hrest
      have hTl : T.length ≤ 1000000 := by
        have := congrArg List.length HC.out
        rw [List.length_append] at this
        omega
      generalize (scan p [] rest).1 = k at *
      have HCC := Lib.hid HCC
      have HLL := Lib.hid hl'
      have hkn : k ≤ n' := by rw [← hl']; exact hk2
      have hkl : (rest.take k).length = k := by rw [List.length_take, hl', Nat.min_eq_left hkn]
      have hc1 := fun u => run_cutK_to (P := Tryd.prog) (t := 22) (e := 5) Tryd.underlying22 byte_size A' n' c' k .i64 (by omega) u
      have hc2 := fun u => run_cutK_from (P := Tryd.prog) (t := 22) (e := 5) Tryd.underlying22 byte_size A' n' c' k .i64 hkn hnc' u
      have HKL := Lib.hid hkl
      clear hk2 hl' hkl
      go_wp2_with fail
      refine FR.out.mono ?_
      rintro e w2 ⟨rfl, hg2⟩
      have hown2 := own_later hown hg2
      have heach2 := heach.later hg2
      have hgr2 := Grows.trans hgr hg2
      have hr2 := hr'.later hg2
      have hsz2 : w.heap.size ≤ w2.heap.size := Nat.le_trans hsz hg2.size
      have hL := (Lies.new w2 22 [.slice A' k c']).mono (B' := (w2.alloc (.cells #[.slice A' k c'] 22)).heap.size) (by simp)
      go_wp2_with (at_builtin; refine wpList_append_src _ rfl (.tmp 16) (.tmp 20) _ rfl w1.heap.size 22 i0 _ 24 Tryd.underlying27 hi0 hz0 hz1 hz2 rfl _ T.length es rfl (hown2.alloc _) _ (some ⟨w2.heap.size, 0, none⟩) 1 1 [.slice A' k c'] rfl rfl hL (by simp [Value.oneCell']) (by unfold maxLen; omega) (by omega) (by rw [World.size_alloc]; have := hgr2.size; omega) ?_; intro v4 w4 hown4 hg4 hat4)
      have hg5 : Grows w1 w4 := Below.grown (Grows.trans hgr2 (grows_alloc w2 _)) hg4 (by rw [World.size_alloc]; have := hgr2.size; omega) (own_ge hown2)
      have ht4 : Turns (fun k => w1.heap.size ≤ k) w2 w4 := (Turns.of_grows (grows_alloc w2 _)).trans (Turns.of_by hg4 fun g e _ => own_ge hown2 g e)
      have hno : ∀ q, q < w.heap.size → ¬ w1.heap.size ≤ q := fun q hq h => by have := hgw1.size; omega
      have hr4 := hr2.turned ht4 hno
      have he4 := heach2.turned ht4 hno
      have he5 := he4.snoc (A := A') (c := c') (x := rest.take k) (by rw [HKL.out]; omega) (by rw [List.map_take]; exact hr4.take k)
      rw [HKL.out] at he5
      exact ⟨⟨cutA A' c' k 1, n' - k, c' - k, rest.drop k, T ++ [rest.take k], _, rfl, by rw [List.length_drop, HLL.out], by omega, by omega, by rw [List.map_drop]; exact hr4.cutA (by rw [List.length_map, HLL.out]; exact hnc'), by show _ = _; rw [HC.out, HCC.out]; simp, by rw [List.length_append, List.length_singleton]; exact hown4, he5, hg5⟩, by simp only [slen]; omega⟩
end Go.Proofs.YtnokloedbckijaaDoor

/-
  CRC-32C as functions of numbers and lists (of no program): a step, a byte, bytes; all are linear, and no two numbers have one step.
-/
namespace Go.Proofs.YtnokloedbckijaaDoor
set_option linter.unusedVariables false

/-- A step of a number. -/
def cstep (n : Nat) : Nat := if n % 2 = 1 then n / 2 ^^^ 2197175160 else n / 2
def csteps : Nat → Nat → Nat
  | 0, n => n
  | k + 1, n => csteps k (cstep n)
/-- A byte: changed by it, then eight steps. -/
def cbyte (n : Nat) (b : UInt8) : Nat := csteps 8 (n ^^^ b.toNat)
def cbytes (n : Nat) (l : List UInt8) : Nat := l.foldl cbyte n
/-- k bytes 0. -/
def czeros : Nat → Nat → Nat
  | 0, n => n
  | k + 1, n => czeros k (csteps 8 n)
/-- The check of bytes behind others whose check is s. -/
def cmore (s : Nat) (l : List UInt8) : Nat := 4294967295 - cbytes (4294967295 - s) l
def crcOf (l : List UInt8) : Nat := cmore 0 l

theorem half_xor (x y : Nat) : (x ^^^ y) / 2 = x / 2 ^^^ y / 2 := by
  have h : ∀ a : Nat, a / 2 = a >>> 1 := fun a => by rw [Nat.shiftRight_eq_div_pow]
  rw [h, h, h, Nat.shiftRight_xor_distrib]
theorem odd_xor (x y : Nat) : (x ^^^ y) % 2 = (x % 2 + y % 2) % 2 := by
  have h := Nat.xor_mod_two_pow (a := x) (b := y) (n := 1)
  rw [show (2 : Nat) ^ 1 = 2 from rfl] at h
  rw [h]
  rcases Nat.mod_two_eq_zero_or_one x with hx | hx <;> rcases Nat.mod_two_eq_zero_or_one y with hy | hy <;> rw [hx, hy] <;> rfl
theorem cstep_xor (x y : Nat) : cstep (x ^^^ y) = cstep x ^^^ cstep y := by
  have ho := odd_xor x y
  unfold cstep
  rw [half_xor]
  have hx := Nat.mod_two_eq_zero_or_one x
  have hy := Nat.mod_two_eq_zero_or_one y
  rcases hx with hx | hx <;> rcases hy with hy | hy <;> rw [hx, hy] at ho <;> simp only [ho, hx, hy] <;> simp
  · exact Nat.xor_assoc _ _ _
  · rw [Nat.xor_assoc, Nat.xor_comm (y / 2), ← Nat.xor_assoc]
  · have : ∀ a b p : Nat, a ^^^ b = (a ^^^ p) ^^^ (b ^^^ p) := fun a b p => by
      rw [Nat.xor_assoc, ← Nat.xor_assoc p, Nat.xor_comm p b, Nat.xor_assoc b, Nat.xor_self, Nat.xor_zero]
    exact this _ _ _
theorem cstep_lt {n : Nat} (h : n < 4294967296) : cstep n < 4294967296 := by
  unfold cstep
  split
  · exact Nat.xor_lt_two_pow (n := 32) (by omega) (by decide)
  · omega
theorem csteps_xor : ∀ k x y, csteps k (x ^^^ y) = csteps k x ^^^ csteps k y
  | 0, _, _ => rfl
  | k + 1, x, y => by rw [csteps, cstep_xor, csteps_xor k]; rfl
theorem csteps_lt : ∀ k {n}, n < 4294967296 → csteps k n < 4294967296
  | 0, _, h => h
  | k + 1, _, h => csteps_lt k (cstep_lt h)
theorem cbyte_lt {n : Nat} (h : n < 4294967296) (b : UInt8) : cbyte n b < 4294967296 :=
  csteps_lt 8 (Nat.xor_lt_two_pow (n := 32) h (by have := b.toNat_lt; omega))
theorem cbytes_lt : ∀ (l : List UInt8) {n : Nat}, n < 4294967296 → cbytes n l < 4294967296
  | [], _, h => h
  | b :: r, _, h => cbytes_lt r (cbyte_lt h b)
theorem czeros_lt : ∀ k {n}, n < 4294967296 → czeros k n < 4294967296
  | 0, _, h => h
  | k + 1, _, h => czeros_lt k (csteps_lt 8 h)
theorem czeros_xor : ∀ k x y, czeros k (x ^^^ y) = czeros k x ^^^ czeros k y
  | 0, _, _ => rfl
  | k + 1, x, y => by rw [czeros, csteps_xor, czeros_xor k]; rfl
theorem cbytes_append (n : Nat) (l r : List UInt8) : cbytes n (l ++ r) = cbytes (cbytes n l) r := by simp [cbytes]
theorem cbytes_cons (n : Nat) (b : UInt8) (r : List UInt8) : cbytes n (b :: r) = cbytes (cbyte n b) r := rfl
/-- Bytes behind a number that is changed by z. -/
theorem cbytes_xor : ∀ (l : List UInt8) (x z : Nat), cbytes (x ^^^ z) l = cbytes x l ^^^ czeros l.length z
  | [], _, _ => rfl
  | b :: r, x, z => by
    rw [cbytes_cons, cbytes_cons]
    have : cbyte (x ^^^ z) b = cbyte x b ^^^ csteps 8 z := by
      unfold cbyte
      rw [Nat.xor_assoc, Nat.xor_comm z, ← Nat.xor_assoc, csteps_xor]
    rw [this, cbytes_xor r]
    rfl
/-- All bits turned. -/
theorem turn_xor {s : Nat} (h : s < 4294967296) : 4294967295 - s = 4294967295 ^^^ s := by
  have h1 : (BitVec.allOnes 32 ^^^ BitVec.ofNat 32 s).toNat = 4294967295 - s := by
    rw [BitVec.allOnes_xor, BitVec.toNat_not, BitVec.toNat_ofNat, Nat.mod_eq_of_lt (by omega)]
  rw [← h1, BitVec.toNat_xor, BitVec.toNat_ofNat, Nat.mod_eq_of_lt (by omega)]
  rfl
theorem cmore_lt {s : Nat} (h : s < 4294967296) (l : List UInt8) : cmore s l < 4294967296 := by unfold cmore; omega
theorem cmore_nil {s : Nat} (h : s < 4294967296) : cmore s [] = s := by unfold cmore cbytes; simp; omega
theorem cmore_append {s : Nat} (h : s < 4294967296) (l r : List UInt8) : cmore s (l ++ r) = cmore (cmore s l) r := by
  have hb := cbytes_lt l (n := 4294967295 - s) (by omega)
  unfold cmore
  rw [cbytes_append]
  congr 2
  omega
/-- THE JOIN: what goes on behind a check is the check of what comes, changed by the first that went on by bytes 0. -/
theorem cmore_join {s : Nat} (h : s < 4294967296) (l : List UInt8) : cmore s l = czeros l.length s ^^^ crcOf l := by
  have h0 : (4294967295 : Nat) < 4294967296 := by decide
  have h1 : 4294967295 - s = (4294967295 - 0) ^^^ s := by rw [Nat.sub_zero]; exact turn_xor h
  have h2 := cbytes_lt l (n := 4294967295) h0
  unfold crcOf cmore
  rw [h1, cbytes_xor, Nat.sub_zero, turn_xor h2, turn_xor (Nat.xor_lt_two_pow (n := 32) h2 (czeros_lt _ h)), ← Nat.xor_assoc, Nat.xor_comm]

/-- No two numbers have one step. -/
theorem cstep_inj {x y : Nat} (hx : x < 4294967296) (hy : y < 4294967296) (h : cstep x = cstep y) : x = y := by
  have key : ∀ n : Nat, n < 4294967296 → (cstep n).testBit 31 = decide (n % 2 = 1) := fun n hn => by
    unfold cstep
    have hb : (n / 2).testBit 31 = false := Nat.testBit_lt_two_pow (by omega)
    split
    · rename_i ho
      rw [Nat.testBit_xor, hb, ho]
      decide
    · rename_i ho
      rw [hb, decide_eq_false ho]
  have h1 : decide (x % 2 = 1) = decide (y % 2 = 1) := by rw [← key x hx, ← key y hy, h]
  have h2 : x % 2 = 1 ↔ y % 2 = 1 := by simpa using h1
  unfold cstep at h
  by_cases ho : x % 2 = 1
  · rw [if_pos ho, if_pos (h2.1 ho)] at h
    have h3 : x / 2 = y / 2 := by
      have := congrArg (· ^^^ 2197175160) h
      simpa [Nat.xor_assoc] using this
    omega
  · rw [if_neg ho, if_neg (fun e => ho (h2.2 e))] at h
    omega
theorem csteps_inj : ∀ k {x y : Nat}, x < 4294967296 → y < 4294967296 → csteps k x = csteps k y → x = y
  | 0, _, _, _, _, h => h
  | k + 1, _, _, hx, hy, h => cstep_inj hx hy (csteps_inj k (cstep_lt hx) (cstep_lt hy) h)
theorem xor_right_inj {a x y : Nat} (h : x ^^^ a = y ^^^ a) : x = y := by
  have := congrArg (· ^^^ a) h
  simpa [Nat.xor_assoc] using this
theorem xor_left_inj {a x y : Nat} (h : a ^^^ x = a ^^^ y) : x = y := by
  rw [Nat.xor_comm a, Nat.xor_comm a] at h
  exact xor_right_inj h
theorem cbyte_inj {x y : Nat} (hx : x < 4294967296) (hy : y < 4294967296) {b : UInt8} (h : cbyte x b = cbyte y b) : x = y := by
  have hb := b.toNat_lt
  exact xor_right_inj (csteps_inj 8 (Nat.xor_lt_two_pow (n := 32) hx (by omega)) (Nat.xor_lt_two_pow (n := 32) hy (by omega)) h)
theorem cbyte_byte_inj {x : Nat} (hx : x < 4294967296) {b c : UInt8} (h : cbyte x b = cbyte x c) : b = c := by
  have hb := b.toNat_lt
  have hc := c.toNat_lt
  exact UInt8.toNat_inj.1 (xor_left_inj (csteps_inj 8 (Nat.xor_lt_two_pow (n := 32) hx (by omega)) (Nat.xor_lt_two_pow (n := 32) hx (by omega)) h))
theorem cbytes_inj : ∀ (l : List UInt8) {x y : Nat}, x < 4294967296 → y < 4294967296 → cbytes x l = cbytes y l → x = y
  | [], _, _, _, _, h => h
  | b :: r, _, _, hx, hy, h => cbyte_inj hx hy (cbytes_inj r (cbyte_lt hx b) (cbyte_lt hy b) h)
/-- Texts that part in one byte have other checks. -/
theorem crc_differs (l r : List UInt8) (b c : UInt8) (h : b ≠ c) : crcOf (l ++ b :: r) ≠ crcOf (l ++ c :: r) := by
  intro he
  have h0 : (4294967295 : Nat) < 4294967296 := by decide
  have h1 := cbytes_lt (l ++ b :: r) h0
  have h2 := cbytes_lt (l ++ c :: r) h0
  have h3 : cbytes 4294967295 (l ++ b :: r) = cbytes 4294967295 (l ++ c :: r) := by
    unfold crcOf cmore at he
    rw [Nat.sub_zero] at he
    omega
  rw [cbytes_append, cbytes_append, cbytes_cons, cbytes_cons] at h3
  have h4 := cbytes_lt l h0
  exact h (cbyte_byte_inj h4 (cbytes_inj r (cbyte_lt h4 b) (cbyte_lt h4 c) h3))
set_option maxRecDepth 10000 in
theorem crc_nine : crcOf [49, 50, 51, 52, 53, 54, 55, 56, 57] = 3808858755 := by decide +kernel
end Go.Proofs.YtnokloedbckijaaDoor

/-
  Contracts of crc's step, More and Sum, and of the reference's More.
-/
namespace Go.Proofs.YtnokloedbckijaaDoor
open Go.RowKit
set_option linter.unusedVariables false

theorem ret_w32 {a b : Int} (h : a = b) : Ending.returned (.int .u32 a) = .returned (.int .u32 b) := by rw [h]
theorem w32_not (a : Nat) (ha : a < 4294967296) : bits .xor .u32 (if IntKind.u32.signed = true then -1 else IntKind.u32.max) (a : Int) = ((4294967295 - a : Nat) : Int) := by
  show IntKind.u32.wrap ((BitVec.ofInt 32 (if IntKind.u32.signed = true then -1 else IntKind.u32.max) ^^^ BitVec.ofInt 32 (a : Int)).toNat : Int) = _
  have h1 : BitVec.ofInt 32 (if IntKind.u32.signed = true then -1 else IntKind.u32.max) = BitVec.allOnes 32 := by decide
  rw [h1, BitVec.allOnes_xor, BitVec.toNat_not, ofInt_u32 a ha, IntKind.wrap_u32']
  omega
theorem csteps_succ : ∀ k n, csteps (k + 1) n = cstep (csteps k n)
  | 0, _ => rfl
  | k + 1, n => by rw [csteps, csteps_succ k, csteps]
theorem cbytes_take (n : Nat) (l : List UInt8) (k : Nat) (b : UInt8) (h : l[k]? = some b) : cbytes n (l.take (k + 1)) = cbyte (cbytes n (l.take k)) b := by
  rw [List.take_add_one, h]
  simp [cbytes]

set_option maxHeartbeats 400000 in
theorem cstep_any (x b : Nat) (w : World) (hx : x < 4294967296) (hc : w.cell? ⟨b, 0, none⟩ = some (uv 2197175160)) :
    Calls Tryd.prog 122 #[uv x, .pointer (some ⟨b, 0, none⟩)] w fun e w' => e = .returned (uv (cstep x)) ∧ w = w' := by
  have ha : bits .and .u32 (x : Int) 1 = ((x % 2 : Nat) : Int) := by
    have := u32_and_nat x 1 hx (by omega)
    rw [Nat.and_one_is_mod] at this
    exact this
  have hxo := Lib.hid (show bits .xor .u32 ((x : Int) / 2) 2197175160 = ((x / 2 ^^^ 2197175160 : Nat) : Int) from u32_xor_nat (x / 2) 2197175160 (by omega) (by omega))
  by_cases h : x % 2 = 1
  · rw [h] at ha
    have hs : cstep x = x / 2 ^^^ 2197175160 := by unfold cstep; rw [if_pos h]
    rw [hs]
    clear hs h
    go_enter Tryd.func122, Tryd.ntmps122
    go_wp2
    go_ret
    exact ⟨ret_w32 hxo.out, rfl⟩
  · rw [show x % 2 = 0 by omega] at ha
    have hs : cstep x = x / 2 := by unfold cstep; rw [if_neg h]
    rw [hs]
    clear hs h
    go_enter Tryd.func122, Tryd.ntmps122
    go_wp2
    go_ret
    exact ⟨rfl, rfl⟩

set_option maxHeartbeats 400000 in
theorem stepBy_any (w : World) : Calls Tryd.prog 114 #[uv 2197175160] w fun e w' => ∃ b, e = .returned (.func (.func 122) #[] #[.pointer (some ⟨b, 0, none⟩)]) ∧ w'.cell? ⟨b, 0, none⟩ = some (uv 2197175160) ∧ Grows w w' := by
  have hh := (Has.new w 93 [uv 2197175160]).cell (k := 0) rfl
  have hg := grows_alloc w (.cells #[uv 2197175160] 93)
  go_enter Tryd.func114, Tryd.ntmps114
  go_wp2
  go_ret
  exact ⟨_, rfl, hh, hg⟩

set_option maxHeartbeats 1000000 in
theorem crcmore_any (s : Nat) (A : Option Addr) (n c : Nat) (bs : List UInt8) (w : World) (hs : s < 4294967296) (hl : bs.length = n) (hr : Lies w w.heap.size A (bs.map bv)) (hn : n ≤ 1000000000000) :
    Calls Tryd.prog 97 #[uv s, .slice A n c] w fun e w' => e = .returned (uv (cmore s bs)) ∧ Grows w w' := by
  have hnot := Lib.hid (w32_not s hs)
  have HL := Lib.hid hl
  clear hl
  go_enter Tryd.func97, Tryd.ntmps97
  go_wp2_with fail
  refine (stepBy_any w).mono ?_
  rintro e w1 ⟨bk, rfl, hck, hg1⟩
  have hn0 := hnot.out
  have hr1 := hr.later hg1
  clear hr
  go_wp2
  go_loop [6, 13] (fun x i => ∃ k : Nat, k ≤ n ∧ i = .int .i64 k ∧ x = uv (cbytes (4294967295 - s) (bs.take k))) (fun _ i => n - (intOf i).toNat)
  case atStart => exact ⟨0, Nat.zero_le _, rfl, by simp [cbytes]⟩
  case round =>
    obtain ⟨k, hk, rfl, rfl⟩ := hrel
    have hb := cbytes_lt (bs.take k) (n := 4294967295 - s) (by omega)
    by_cases hlt : k < n
    · obtain ⟨b, hbk⟩ : ∃ b, bs[k]? = some b := ⟨_, List.getElem?_eq_getElem (by rw [HL.out]; exact hlt)⟩
      obtain ⟨ad, rfl, _, cx⟩ := hr1.at_ (j := k) (u := bv b) (by rw [List.getElem?_map, hbk]; rfl)
      have HT := Lib.hid (cbytes_take (4294967295 - s) bs k b hbk)
      clear hbk
      generalize cbytes (4294967295 - s) (bs.take k) = x at *
      have hb8 := b.toNat_lt
      have hxo : bits .xor .u32 (x : Int) (b.toNat : Int) = ((x ^^^ b.toNat : Nat) : Int) := u32_xor_nat x b.toNat hb (by omega)
      have hy : x ^^^ b.toNat < 4294967296 := Nat.xor_lt_two_pow (n := 32) hb (by omega)
      have HC : Hid (cbyte x b = csteps 8 (x ^^^ b.toNat)) := rfl
      generalize hyy : x ^^^ b.toNat = y at *
      clear hyy
      go_wp2
      go_loop [6, 23] (fun x j => ∃ m : Nat, m ≤ 8 ∧ j = .int .i64 m ∧ x = uv (csteps m y)) (fun _ j => 8 - (intOf j).toNat)
      case atStart => exact ⟨0, by omega, rfl, rfl⟩
      case round =>
        obtain ⟨m, hm, rfl, rfl⟩ := hrel
        by_cases hmt : m < 8
        · have hz := csteps_lt m hy
          have hS := Lib.hid (csteps_succ m y)
          generalize csteps m y = z at *
          go_wp2_with fail
          refine (cstep_any z bk w1 hz hck).mono ?_
          rintro e w2 ⟨rfl, rfl⟩
          go_wp2
          go_round
          case rel => exact ⟨m + 1, by omega, by go_num, by rw [hS.out]⟩
          case measure => simp [intOf]; omega
        · obtain rfl : m = 8 := by omega
          go_wp2
          go_round
          case rel => exact ⟨k + 1, by omega, by go_num, by rw [HT.out, HC.out]⟩
          case measure => simp [intOf]; omega
    · obtain rfl : k = n := by omega
      have e1 := Lib.hid (w32_not _ hb)
      have e2 : bs.take k = bs := List.take_of_length_le (by rw [HL.out]; exact Nat.le_refl _)
      rw [e2] at e1
      go_wp2
      go_ret
      exact ⟨ret_w32 e1.out, hg1⟩

set_option maxHeartbeats 400000 in
theorem crcsum_any (A : Option Addr) (n c : Nat) (bs : List UInt8) (w : World) (hl : bs.length = n) (hr : Lies w w.heap.size A (bs.map bv)) (hn : n ≤ 1000000000000) :
    Calls Tryd.prog 81 #[.slice A n c] w fun e w' => e = .returned (uv (crcOf bs)) ∧ Grows w w' := by
  have HL := Lib.hid hl
  clear hl
  go_enter Tryd.func81, Tryd.ntmps81
  go_wp2_with fail
  refine (crcmore_any 0 A n c bs w (by omega) HL.out hr hn).mono ?_
  rintro e w1 ⟨rfl, hg1⟩
  go_wp2_with fail
  go_ret
  exact ⟨rfl, hg1⟩

set_option maxHeartbeats 1000000 in
/-- The reference's More. -/
theorem rmore_any (s : Nat) (A : Option Addr) (n c : Nat) (bs : List UInt8) (w : World) (hs : s < 4294967296) (hl : bs.length = n) (hr : Lies w w.heap.size A (bs.map bv)) (hn : n ≤ 1000000000000) :
    Calls Tryd.prog 57 #[uv s, .slice A n c] w fun e w' => e = .returned (uv (cmore s bs)) ∧ w = w' := by
  have HL := Lib.hid hl
  clear hl
  have hs1 : (0 : Int) ≤ 4294967295 - (s : Int) := by omega
  have hs2 : IntKind.u32.wrap (4294967295 - (s : Int)) = ((4294967295 - s : Nat) : Int) := by rw [IntKind.wrap_u32']; omega
  go_enter Tryd.func57, Tryd.ntmps57
  go_wp2
  go_loop [5, 6, 7] (fun x i _ => ∃ k : Nat, k ≤ n ∧ i = .int .i64 k ∧ x = uv (cbytes (4294967295 - s) (bs.take k))) (fun _ i _ => n - (intOf i).toNat)
  case atStart => exact ⟨0, Nat.zero_le _, rfl, by simp [cbytes]⟩
  case round =>
    obtain ⟨k, hk, rfl, rfl⟩ := hrel
    have hb := cbytes_lt (bs.take k) (n := 4294967295 - s) (by omega)
    by_cases hlt : k < n
    · obtain ⟨b, hbk⟩ : ∃ b, bs[k]? = some b := ⟨_, List.getElem?_eq_getElem (by rw [HL.out]; exact hlt)⟩
      obtain ⟨ad, rfl, _, cx⟩ := hr.at_ (j := k) (u := bv b) (by rw [List.getElem?_map, hbk]; rfl)
      have HT := Lib.hid (cbytes_take (4294967295 - s) bs k b hbk)
      clear hbk
      generalize cbytes (4294967295 - s) (bs.take k) = x at *
      have hb8 := b.toNat_lt
      have hxo : bits .xor .u32 (x : Int) (b.toNat : Int) = ((x ^^^ b.toNat : Nat) : Int) := u32_xor_nat x b.toNat hb (by omega)
      have hy : x ^^^ b.toNat < 4294967296 := Nat.xor_lt_two_pow (n := 32) hb (by omega)
      have HC : Hid (cbyte x b = csteps 8 (x ^^^ b.toNat)) := rfl
      generalize hyy : x ^^^ b.toNat = y at *
      clear hyy
      go_wp2
      go_loop [5, 7] (fun x j => ∃ m : Nat, m ≤ 8 ∧ j = .int .i64 m ∧ x = uv (csteps m y)) (fun _ j => 8 - (intOf j).toNat)
      case atStart => exact ⟨0, by omega, rfl, rfl⟩
      case round =>
        obtain ⟨m, hm, rfl, rfl⟩ := hrel
        by_cases hmt : m < 8
        · have hz := csteps_lt m hy
          have hS := Lib.hid (csteps_succ m y)
          generalize csteps m y = z at *
          by_cases ho : z % 2 = 1
          · have hzo : bits .xor .u32 ((z : Int) / 2) 2197175160 = ((z / 2 ^^^ 2197175160 : Nat) : Int) := u32_xor_nat (z / 2) 2197175160 (by omega) (by omega)
            have hs : cstep z = z / 2 ^^^ 2197175160 := by unfold cstep; rw [if_pos ho]
            have HS := Lib.hid hs
            clear hs
            go_wp2
            go_round
            case rel => exact ⟨m + 1, by omega, by go_num, by rw [hS.out, HS.out]⟩
            case measure => simp [intOf]; omega
          · have hs : cstep z = z / 2 := by unfold cstep; rw [if_neg ho]
            have HS := Lib.hid hs
            clear hs
            go_wp2
            go_round
            case rel => exact ⟨m + 1, by omega, by go_num, by rw [hS.out, HS.out]; rfl⟩
            case measure => simp [intOf]; omega
        · obtain rfl : m = 8 := by omega
          go_wp2
          go_round
          case rel => exact ⟨k + 1, by omega, by go_num, by rw [HT.out, HC.out]⟩
          case measure => simp [intOf]; omega
    · obtain rfl : k = n := by omega
      have e2 : bs.take k = bs := List.take_of_length_le (by rw [HL.out]; exact Nat.le_refl _)
      rw [e2] at hb
      have e3 : IntKind.u32.wrap (4294967295 - (cbytes (4294967295 - s) bs : Int)) = ((cmore s bs : Nat) : Int) := by rw [IntKind.wrap_u32']; unfold cmore; omega
      go_wp2
      go_ret
      exact ⟨ret_w32 (by first | exact e3 | (unfold cmore; omega)), rfl⟩
end Go.Proofs.YtnokloedbckijaaDoor

/-
  Contracts of crc's Put, number and Take, and of the reference's Put and Take.
-/
namespace Go.Proofs.YtnokloedbckijaaDoor
open Go.RowKit
set_option linter.unusedVariables false
set_option maxRecDepth 20000

/-- Four bytes of a number, the lowest one first. -/
def fourC (s : Nat) : List UInt8 := (List.range 4).map fun k => UInt8.ofNat (s / 2 ^ (8 * k))
theorem four_len (s : Nat) : (fourC s).length = 4 := by simp [fourC]
theorem four_take (s k : Nat) (hk : k < 4) : (fourC s).take (k + 1) = (fourC s).take k ++ [UInt8.ofNat (s / 2 ^ (8 * k))] := by
  rw [List.take_add_one]
  simp [fourC, hk]

set_option maxHeartbeats 1000000 in
theorem cput_any (A : Option Addr) (n c : Nat) (bs : List UInt8) (w : World) (hl : bs.length = n) (hr : Lies w w.heap.size A (bs.map bv)) (hn : n ≤ 1000000000000) :
    Calls Tryd.prog 54 #[.slice A n c] w fun e w' => ∃ v, e = .returned v ∧ w'.ownsRow w.heap.size 5 1 v (n + 4) ((bs ++ fourC (crcOf bs)).map bv) ∧ Grows w w' := by
  obtain ⟨i0, hi0, hz0, hz1, hz2⟩ := info_parts byte_info
  have HL := Lib.hid hl
  clear hl
  have hs := cmore_lt (s := 0) (by omega) bs
  go_enter Tryd.func54, Tryd.ntmps54
  go_wp2_with (first
    | (at_make; refine wpList_make_room _ rfl _ _ _ rfl w.heap.size 5 i0 _ Tryd.underlying22 hi0 hz0 hz1 rfl .i64 .i64 _ _ n (n + 4) rfl rfl (by omega) (by omega) (by omega) (by rw [hz2]; omega) (by unfold maxLen; omega) (Nat.le_refl _) ?_; intro w1 hown1 hg1 hsz1)
    | (refine wpList_copy_row rfl (.tmp 12) (.tmp 13) 22 22 rfl 5 Tryd.underlying22 (by rw [hi0]; exact congrArg some hz1) w.heap.size (.slice (some ⟨w.heap.size, 0, none⟩) n (n + 4)) n _ rfl hown1 w.heap.size A n c (bs.map bv) rfl (by rw [List.length_map]; exact HL.out) (hr.below hg1) (bv_one bs) w hg1 ?_; intro w2 hown2 hg2 hsz2))
  have e1 : (bs.map bv).take n ++ (List.replicate n (Value.int .u8 0)).drop n = bs.map bv := by
    rw [List.take_of_length_le (by rw [List.length_map, HL.out]; exact Nat.le_refl _)]; simp
  rw [e1] at hown2
  clear e1
  refine (crcsum_any A n c bs w2 HL.out (hr.later hg2) hn).mono ?_
  rintro e w3 ⟨rfl, hg3⟩
  have hown3 := own_later hown2 hg3
  have hg13 := Grows.trans hg2 hg3
  clear hown1 hown2 hg1 hg2 hg3 hsz1 hsz2 hr
  have hs' : crcOf bs < 4294967296 := hs
  generalize hsx : crcOf bs = s at *
  have HSX := Lib.hid hsx
  clear hsx
  go_wp2_with fail
  go_loopw [3, 17] (fun v i wr => ∃ k : Nat, k ≤ 4 ∧ i = .int .i64 k ∧ wr.ownsRow w.heap.size 5 1 v (n + k) ((bs ++ (fourC s).take k).map bv) ∧ Grows w wr) (fun _ i _ => 4 - (intOf i).toNat)
  case atStart => exact ⟨0, by omega, rfl, by simpa using hown3, hg13⟩
  case round =>
    clear hown3 hg13
    obtain ⟨k, hk, rfl, hown, hgr⟩ := hrel
    by_cases hlt : k < 4
    · have HF := Lib.hid (four_take s k hlt)
      have hnew := Lies.new wr 5 [bv (UInt8.ofNat (s / 2 ^ (8 * k)))]
      go_wp2_with (at_builtin; refine wpList_append_src _ rfl (.tmp 20) (.tmp 26) _ rfl w.heap.size 5 i0 _ 1 Tryd.underlying22 hi0 hz0 hz1 hz2 rfl _ (n + k) _ rfl (hown.alloc _) _ _ 1 1 [bv (UInt8.ofNat (s / 2 ^ (8 * k)))] rfl rfl hnew (by simp [Value.oneCell']) (by unfold maxLen; omega) (by omega) (by rw [World.size_alloc]; have := hgr.size; omega) ?_; intro v' w' hown' hg' hat')
      have hb2 : Below w.heap.size wr w' := ((Below.refl _ wr).alloc hgr.size _).grown hg' (by rw [World.size_alloc]; have := hgr.size; omega) (own_ge hown)
      rw [show [bv (UInt8.ofNat (s / 2 ^ (8 * k)))] = [UInt8.ofNat (s / 2 ^ (8 * k))].map bv from rfl, ← List.map_append, List.append_assoc, ← HF.out] at hown'
      go_roundw
      case rel => exact ⟨k + 1, by omega, by go_num, hown', Below.trans hgr hb2⟩
      case measure => simp [intOf]; omega
    · obtain rfl : k = 4 := by omega
      go_wp2
      go_ret
      rw [List.take_of_length_le (by rw [four_len]; exact Nat.le_refl _)] at hown
      exact ⟨_, rfl, by rw [HSX.out]; exact hown, hgr⟩

/-- What fourC bytes tell, as far as k. -/
def numTo (l : List UInt8) : Nat → Nat
  | 0 => 0
  | k + 1 => numTo l k + (l.getD k 0).toNat * 2 ^ (8 * k)
theorem numTo_lt (l : List UInt8) : ∀ k, numTo l k < 2 ^ (8 * k)
  | 0 => by simp [numTo]
  | k + 1 => by
    have ih := numTo_lt l k
    have hb := (l.getD k 0).toNat_lt
    rw [numTo, show 8 * (k + 1) = 8 * k + 8 by omega, Nat.pow_add]
    generalize (l.getD k 0).toNat = b at *
    generalize 2 ^ (8 * k) = p at *
    have : b * p ≤ 255 * p := Nat.mul_le_mul_right _ (by omega)
    omega

theorem or_place (x b k : Nat) (hk : k < 4) (hx : x < 2 ^ (8 * k)) (hb : b < 256) : bits .or .u32 (x : Int) ((b : Int) * 2 ^ (8 * k) % 4294967296) = ((x + b * 2 ^ (8 * k) : Nat) : Int) := by
  have hp : 2 ^ (8 * k) * 256 ≤ 4294967296 := by
    have : 2 ^ (8 * k) * 256 = 2 ^ (8 * k + 8) := by rw [Nat.pow_add]
    rw [this]
    exact Nat.pow_le_pow_right (n := 2) (by omega) (show 8 * k + 8 ≤ 32 by omega)
  have h1 : b * 2 ^ (8 * k) < 4294967296 := by
    have : b * 2 ^ (8 * k) ≤ 255 * 2 ^ (8 * k) := Nat.mul_le_mul_right _ (by omega)
    have : 0 < 2 ^ (8 * k) := Nat.two_pow_pos _
    omega
  have e1 : (b : Int) * 2 ^ (8 * k) % 4294967296 = ((b * 2 ^ (8 * k) : Nat) : Int) := by
    have : (b : Int) * 2 ^ (8 * k) = ((b * 2 ^ (8 * k) : Nat) : Int) := by simp
    rw [this]
    omega
  have h2 : x < 4294967296 := by omega
  rw [e1, u32_or_nat _ _ h2 h1]
  congr 1
  rw [Nat.or_comm, ← Nat.shiftLeft_eq, ← Nat.shiftLeft_add_eq_or_of_lt hx, Nat.add_comm]

set_option maxHeartbeats 1000000 in
theorem number_any (A : Option Addr) (c : Nat) (l : List UInt8) (w : World) (hl : l.length = 4) (hr : Lies w w.heap.size A (l.map bv)) :
    Calls Tryd.prog 82 #[.slice A 4 c] w fun e w' => e = .returned (uv (numTo l 4)) ∧ w = w' := by
  have HL := Lib.hid hl
  clear hl
  go_enter Tryd.func82, Tryd.ntmps82
  go_wp2
  go_loop [3, 5] (fun x i => ∃ k : Nat, k ≤ 4 ∧ i = .int .i64 k ∧ x = uv (numTo l k)) (fun _ i => 4 - (intOf i).toNat)
  case atStart => exact ⟨0, by omega, rfl, rfl⟩
  case round =>
    obtain ⟨k, hk, rfl, rfl⟩ := hrel
    by_cases hlt : k < 4
    · obtain ⟨b, hbk⟩ : ∃ b, l[k]? = some b := ⟨_, List.getElem?_eq_getElem (by rw [HL.out]; exact hlt)⟩
      obtain ⟨ad, rfl, _, cx⟩ := hr.at_ (j := k) (u := bv b) (by rw [List.getElem?_map, hbk]; rfl)
      have HS : Hid (numTo l (k + 1) = numTo l k + b.toNat * 2 ^ (8 * k)) := by show _ = _; rw [numTo, List.getD, hbk]; rfl
      have hx := numTo_lt l k
      clear hbk
      generalize numTo l k = x at *
      have hb8 := b.toNat_lt
      go_wp2
      go_round
      case rel => exact ⟨k + 1, by omega, by go_num, by rw [HS.out, or_place x b.toNat k hlt hx hb8]⟩
      case measure => simp [intOf]; omega
    · obtain rfl : k = 4 := by omega
      go_wp2
      go_ret
      exact ⟨rfl, rfl⟩

theorem num_inj (l : List UInt8) (s : Nat) (hl : l.length = 4) (hs : s < 4294967296) : numTo l 4 = s ↔ l = fourC s := by
  match l, hl with
  | [a, b, c, d], _ =>
    have ha := a.toNat_lt
    have hb := b.toNat_lt
    have hc := c.toNat_lt
    have hd := d.toNat_lt
    have e1 : numTo [a, b, c, d] 4 = a.toNat + b.toNat * 256 + c.toNat * 65536 + d.toNat * 16777216 := by simp [numTo]
    have e2 : fourC s = [UInt8.ofNat s, UInt8.ofNat (s / 256), UInt8.ofNat (s / 65536), UInt8.ofNat (s / 16777216)] := by simp [fourC, List.range, List.range.loop]
    rw [e1, e2]
    constructor
    · intro h
      have g1 : a = UInt8.ofNat s := by apply UInt8.toNat_inj.1; rw [UInt8.toNat_ofNat']; omega
      have g2 : b = UInt8.ofNat (s / 256) := by apply UInt8.toNat_inj.1; rw [UInt8.toNat_ofNat']; omega
      have g3 : c = UInt8.ofNat (s / 65536) := by apply UInt8.toNat_inj.1; rw [UInt8.toNat_ofNat']; omega
      have g4 : d = UInt8.ofNat (s / 16777216) := by apply UInt8.toNat_inj.1; rw [UInt8.toNat_ofNat']; omega
      rw [g1, g2, g3, g4]
    · intro h
      injection h with h1 h
      injection h with h2 h
      injection h with h3 h
      injection h with h4 h
      subst h1 h2 h3 h4
      simp only [UInt8.toNat_ofNat']
      omega

theorem number_g (A : Option Addr) (c : Nat) {x : Nat} {l : List UInt8} (hx : Hid (numTo l 4 = x)) (w : World) (hl : l.length = 4) (hr : Lies w w.heap.size A (l.map bv)) :
    Calls Tryd.prog 82 #[.slice A 4 c] w fun e w' => e = .returned (uv x) ∧ Grows w w' := by
  have h := hx.out
  subst h
  exact (number_any A c l w hl hr).mono fun e w' ⟨he, hw⟩ => ⟨he, by subst hw; exact Grows.refl _⟩
theorem sum_g (A : Option Addr) (n c : Nat) {s : Nat} {l : List UInt8} (hx : Hid (crcOf l = s)) (w : World) (hl : l.length = n) (hr : Lies w w.heap.size A (l.map bv)) (hn : n ≤ 1000000000000) :
    Calls Tryd.prog 81 #[.slice A n c] w fun e w' => e = .returned (uv s) ∧ Grows w w' := by
  have h := hx.out
  subst h
  exact crcsum_any A n c l w hl hr hn

/-- What Take answers: the bytes, and the error's number. -/
def takeOf (l : List UInt8) : List UInt8 × Nat :=
  if l.length < 4 then ([], 2) else if l.drop (l.length - 4) = fourC (crcOf (l.take (l.length - 4))) then (l.take (l.length - 4), 0) else ([], 7)

theorem byte_one : (Tryd.prog.info? 5).map (·.size) = some 1 := by kernel_rfl

set_option maxHeartbeats 1000000 in
theorem take_any (A : Option Addr) (n c : Nat) (bs : List UInt8) (w : World) (hl : bs.length = n) (hr : Lies w w.heap.size A (bs.map bv)) (hc : n ≤ c) (hn : n ≤ 1000000000000) :
    Calls Tryd.prog 58 #[.slice A n c] w fun e w' => ∃ A' c', e = .returned (.tuple #[.slice A' (takeOf bs).1.length c', .int .i64 ((takeOf bs).2 : Int)]) ∧ Lies w' w'.heap.size A' ((takeOf bs).1.map bv) ∧ Grows w w' := by
  obtain ⟨i0, hi0, hz0, hz1, hz2⟩ := info_parts byte_info
  by_cases h4 : n < 4
  · have ht : takeOf bs = ([], 2) := by unfold takeOf; rw [if_pos (by omega)]
    rw [ht]
    clear ht
    go_enter Tryd.func58, Tryd.ntmps58
    go_wp2
    go_ret2
    exact ⟨none, 0, rfl, Lies.empty, Grows.refl _⟩
  · obtain ⟨m, rfl⟩ : ∃ m, n = m + 4 := ⟨n - 4, by omega⟩
    have HB := Lib.hid hl
    clear hl h4
    have hm4 : ((m + 4 : Nat) : Int) - 4 = (m : Int) := by omega
    have ct := run_cut_to (P := Tryd.prog) Tryd.underlying22 byte_one A (m + 4) c m .i64 (by omega)
    have cf := run_cut_from (P := Tryd.prog) Tryd.underlying22 byte_one A (m + 4) c m .i64 (by omega) (by omega)
    rw [show m + 4 - m = 4 by omega] at cf
    have hrt : Lies w w.heap.size A ((bs.take m).map bv) := by rw [List.map_take]; exact hr.take m
    have hrf : Lies w w.heap.size (A.map (·.add m)) ((bs.drop m).map bv) := by rw [List.map_drop]; exact hr.from_ m
    have HT : Hid ((bs.take m).length = m) := by show _ = _; rw [List.length_take, HB.out]; omega
    have HF : Hid ((bs.drop m).length = 4) := by show _ = _; rw [List.length_drop, HB.out]; omega
    have hs : crcOf (bs.take m) < 4294967296 := cmore_lt (s := 0) (by omega) _
    have HN := Lib.hid (num_inj (bs.drop m) (crcOf (bs.take m)) HF.out hs)
    have HTK : Hid (takeOf bs = if bs.drop m = fourC (crcOf (bs.take m)) then (bs.take m, 0) else ([], 7)) := by
      show _ = _
      unfold takeOf
      rw [HB.out, if_neg (by omega), show m + 4 - 4 = m by omega]
    have HCT := Lib.hid ct
    have HCF := Lib.hid cf
    clear ct cf
    go_enter Tryd.func58, Tryd.ntmps58
    go_wp2_with fail
    refine wp_region_ord 9 [(0, true), (1, true), (2, true), (3, true), (4, true), (5, true), (6, true), (7, true), (8, true)] (by kernel_rfl) (by kernel_rfl) ?_
    have hgd : Grows w w.drew := (Grows.refl w).drew
    have hLT := Lib.hid (hrt.later hgd)
    have hLF := Lib.hid (hrf.later hgd)
    have HGD := Lib.hid hgd
    have ct := HCT.out
    have cf := HCF.out
    have hO := Grows.refl w.drew
    clear hrt hrf hgd
    generalize hs0 : crcOf (bs.take m) = s at *
    have HS0 := Lib.hid hs0
    clear hs0
    generalize hx0 : numTo (bs.drop m) 4 = x at *
    have HX0 := Lib.hid hx0
    clear hx0
    repeat (first | (refine ord_cut hO _ ?_ (by simp only [List.getElem?_cons_succ, List.getElem?_cons_zero]; rfl) (by rfl) 22 (.tmp 15) none (some (.tmp 16)) none (by rfl) ?_ ?_; rotate_left; (· (exact ct)); try simp only [Act.put, List.setIfInBounds_toArray, List.set_cons_zero, List.set_cons_succ]) | (refine ord_cut hO _ ?_ (by simp only [List.getElem?_cons_succ, List.getElem?_cons_zero]; rfl) (by rfl) 22 (.tmp 11) (some (.tmp 12)) none none (by rfl) ?_ ?_; rotate_left; (· (exact cf)); try simp only [Act.put, List.setIfInBounds_toArray, List.set_cons_zero, List.set_cons_succ]) | (refine ord_take hO _ ?_ (by simp only [List.getElem?_cons_succ, List.getElem?_cons_zero]; rfl) (by rfl) ?_ ?_; rotate_left; (· (intro u hu0 hu; (try go_simp); (try with_reducible rfl))); try simp only [Act.put, List.setIfInBounds_toArray, List.set_cons_zero, List.set_cons_succ]) | (refine ord_skip _ (by simp only [List.getElem?_cons_succ, List.getElem?_cons_zero]; rfl) (by rfl) ?_; try simp only [Act.put, List.setIfInBounds_toArray, List.set_cons_zero, List.set_cons_succ]) | (refine ord_call hO _ ?_ (by simp only [List.getElem?_cons_succ, List.getElem?_cons_zero]; rfl) (by rfl) ?_ ?_; rotate_left; (· (intro u hu0 hu; go_simp; (try refine quiet_enter ?_); (first | exact number_g _ _ HX0 _ HF.out (hLF.out.later hu0) | exact sum_g _ _ _ HS0 _ HT.out (hLT.out.later hu0) (by omega)))); try simp only [Act.put, List.setIfInBounds_toArray, List.set_cons_zero, List.set_cons_succ]))
    clear hO ct cf HCT HCF
    (refine ord_done (fun u hu => ?_); simp only [List.drop_succ_cons, List.drop_zero])
    have hgu := Grows.trans HGD.out hu
    have hru := hr.later hgu
    clear hLT hLF HGD hr hu
    by_cases hxs : x = s
    · have HK : Hid (takeOf bs = (bs.take m, 0)) := by show _ = _; rw [HTK.out, if_pos (HN.out.1 hxs)]
      have hq : ((x : Int) != (s : Int)) = false := by simp [hxs]
      clear HTK HN HX0 HS0 hxs
      refine NoPanic.normal ?_
      go_wp2_with (first
        | (at_make; refine wpList_make_room _ rfl _ _ _ rfl u.heap.size 5 i0 _ Tryd.underlying22 hi0 hz0 hz1 rfl .i64 .i64 _ _ m m rfl rfl (by omega) (by omega) (Nat.le_refl _) (by rw [hz2]; omega) (by unfold maxLen; omega) (Nat.le_refl _) ?_; intro w1 hown1 hg1 hsz1)
        | (refine wpList_copy_row rfl (.tmp 22) (.tmp 23) 22 22 rfl 5 Tryd.underlying22 byte_one u.heap.size (.slice (some ⟨u.heap.size, 0, none⟩) m m) m _ rfl hown1 u.heap.size A (m + 4) c (bs.map bv) rfl (by rw [List.length_map]; exact HB.out) (hru.below hg1) (bv_one bs) u hg1 ?_; intro w2 hown2 hg2 hsz2))
      have e1 : (bs.map bv).take m ++ (List.replicate m (Value.int .u8 0)).drop (m + 4) = (bs.take m).map bv := by
        rw [List.drop_eq_nil_of_le (by simp), List.append_nil, List.map_take]
      rw [e1] at hown2
      have hg02 := Grows.trans hgu hg2
      have hL2 := Lies.of_own hown2
      go_ret2
      rw [HK.out]
      exact ⟨_, m, by rw [HT.out]; rfl, hL2, hg02⟩
    · have HK : Hid (takeOf bs = ([], 7)) := by show _ = _; rw [HTK.out, if_neg (fun h => hxs (HN.out.2 h))]
      have hq : ((x : Int) != (s : Int)) = true := by simp; omega
      clear HTK HN HX0 HS0 hxs
      refine NoPanic.normal ?_
      go_wp2_with fail
      go_ret2
      rw [HK.out]
      exact ⟨none, 0, rfl, Lies.empty, hgu⟩
end Go.Proofs.YtnokloedbckijaaDoor

/-
  Contracts of the reference's Put and Take of layer 3.
-/
namespace Go.Proofs.YtnokloedbckijaaDoor
open Go.RowKit
set_option linter.unusedVariables false
set_option maxRecDepth 20000

set_option maxHeartbeats 1000000 in
theorem rput_any (A : Option Addr) (n c : Nat) (bs : List UInt8) (w : World) (hl : bs.length = n) (hr : Lies w w.heap.size A (bs.map bv)) (hn : n ≤ 1000000000000) :
    Calls Tryd.prog 38 #[.slice A n c] w fun e w' => ∃ v, e = .returned v ∧ w'.ownsRow w.heap.size 5 1 v (n + 4) ((bs ++ fourC (crcOf bs)).map bv) ∧ Grows w w' := by
  obtain ⟨i0, hi0, hz0, hz1, hz2⟩ := info_parts byte_info
  have HL := Lib.hid hl
  clear hl
  have hs : crcOf bs < 4294967296 := cmore_lt (s := 0) (by omega) bs
  go_enter Tryd.func38, Tryd.ntmps38
  go_wp2_with fail
  refine (rmore_any 0 A n c bs w (by omega) HL.out hr hn).mono ?_
  rintro e w' ⟨rfl, rfl⟩
  have HSX : Hid (cmore 0 bs = crcOf bs) := rfl
  have HS0 : Hid (crcOf bs = crcOf bs / 2 ^ (8 * 0)) := by show _ = _; simp
  generalize cmore 0 bs = sx at *
  obtain rfl : sx = crcOf bs := HSX.out
  go_wp2_with (at_builtin; refine wpList_append_src _ rfl (.tmp 8) (.tmp 9) _ rfl w.heap.size 5 i0 _ 1 Tryd.underlying22 hi0 hz0 hz1 hz2 rfl (.slice none 0 0) 0 [] rfl (World.ownsRow_nil _ _ _ _) w.heap.size A n c (bs.map bv) rfl (by rw [List.length_map]; exact HL.out) hr (bv_one bs) (by unfold maxLen; omega) (by omega) (Nat.le_refl _) ?_; intro v1 w1 hown1 hg1 hat1)
  have hgr1 : Grows w w1 := (Grows.refl w).grown hg1 (Nat.le_refl _) (by simp [Value.ownBlock])
  rw [Nat.zero_add, List.nil_append] at hown1
  clear hg1 hat1 HSX
  generalize hsx : crcOf bs = s at *
  have HSX := Lib.hid hsx
  clear hsx
  go_loopw [3, 4, 5] (fun x v i wr => ∃ k : Nat, k ≤ 4 ∧ i = .int .i64 k ∧ x = uv (s / 2 ^ (8 * k)) ∧ wr.ownsRow w.heap.size 5 1 v (n + k) ((bs ++ (fourC s).take k).map bv) ∧ Grows w wr) (fun _ _ i _ => 4 - (intOf i).toNat)
  case atStart => exact ⟨0, by omega, rfl, by rw [← HS0.out], by simpa using hown1, hgr1⟩
  case round =>
    clear hown1 hgr1 HS0
    obtain ⟨k, hk, rfl, rfl, hown, hgr⟩ := hrel
    by_cases hlt : k < 4
    · have HF := Lib.hid (four_take s k hlt)
      have HD : Hid (s / 2 ^ (8 * (k + 1)) = s / 2 ^ (8 * k) / 256) := by show _ = _; rw [show 8 * (k + 1) = 8 * k + 8 by omega, Nat.pow_add, Nat.div_div_eq_div_mul]
      have hq : s / 2 ^ (8 * k) < 4294967296 := Nat.lt_of_le_of_lt (Nat.div_le_self _ _) hs
      generalize s / 2 ^ (8 * k) = q at *
      have hnew := Lies.new wr 5 [bv (UInt8.ofNat q)]
      go_wp2_with (at_builtin; refine wpList_append_src _ rfl (.tmp 15) (.tmp 19) _ rfl w.heap.size 5 i0 _ 1 Tryd.underlying22 hi0 hz0 hz1 hz2 rfl _ (n + k) _ rfl (hown.alloc _) _ _ 1 1 [bv (UInt8.ofNat q)] rfl rfl hnew (by simp [Value.oneCell']) (by unfold maxLen; omega) (by omega) (by rw [World.size_alloc]; have := hgr.size; omega) ?_; intro v' w' hown' hg' hat')
      have hb2 : Below w.heap.size wr w' := ((Below.refl _ wr).alloc hgr.size _).grown hg' (by rw [World.size_alloc]; have := hgr.size; omega) (own_ge hown)
      rw [show [bv (UInt8.ofNat q)] = [UInt8.ofNat q].map bv from rfl, ← List.map_append, List.append_assoc, ← HF.out] at hown'
      go_roundw
      case rel => exact ⟨k + 1, by omega, by go_num, by rw [HD.out]; rfl, hown', Below.trans hgr hb2⟩
      case measure => simp [intOf]; omega
    · obtain rfl : k = 4 := by omega
      rw [List.take_of_length_le (by rw [four_len]; exact Nat.le_refl _)] at hown
      go_wp2
      go_ret
      exact ⟨_, rfl, by rw [HSX.out]; exact hown, hgr⟩

theorem takeOf_put (bs : List UInt8) (m : Nat) (hl : bs.length = m + 4) : takeOf bs = if bs.take m ++ fourC (crcOf (bs.take m)) = bs then (bs.take m, 0) else ([], 7) := by
  unfold takeOf
  rw [hl, if_neg (by omega), show m + 4 - 4 = m by omega]
  have h : bs.take m ++ fourC (crcOf (bs.take m)) = bs ↔ bs.drop m = fourC (crcOf (bs.take m)) := by
    constructor
    · intro h
      have h2 := List.take_append_drop m bs
      exact (List.append_cancel_left (h.trans h2.symm)).symm
    · intro h
      rw [← h, List.take_append_drop]
  simp only [h]

set_option maxHeartbeats 1000000 in
theorem rtake_any (A : Option Addr) (n c : Nat) (bs : List UInt8) (w : World) (hl : bs.length = n) (hr : Lies w w.heap.size A (bs.map bv)) (hc : n ≤ c) (hn : n ≤ 1000000000000) :
    Calls Tryd.prog 61 #[.slice A n c] w fun e w' => ∃ A' c', e = .returned (.tuple #[.slice A' (takeOf bs).1.length c', .int .i64 ((takeOf bs).2 : Int)]) ∧ Lies w' w'.heap.size A' ((takeOf bs).1.map bv) ∧ Grows w w' := by
  by_cases h4 : n < 4
  · have ht : takeOf bs = ([], 2) := by unfold takeOf; rw [if_pos (by omega)]
    rw [ht]
    clear ht
    go_enter Tryd.func61, Tryd.ntmps61
    go_wp2
    go_ret2
    exact ⟨none, 0, rfl, Lies.empty, Grows.refl _⟩
  · obtain ⟨m, rfl⟩ : ∃ m, n = m + 4 := ⟨n - 4, by omega⟩
    have HTK := Lib.hid (takeOf_put bs m hl)
    have HB := Lib.hid hl
    clear hl h4
    have hm4 : ((m + 4 : Nat) : Int) - 4 = (m : Int) := by omega
    have ct := run_cut_to (P := Tryd.prog) Tryd.underlying22 byte_one A (m + 4) c m .i64 (by omega)
    have hrt : Lies w w.heap.size A ((bs.take m).map bv) := by rw [List.map_take]; exact hr.take m
    have HT : Hid ((bs.take m).length = m) := by show _ = _; rw [List.length_take, HB.out]; omega
    have HCT := Lib.hid ct
    clear ct
    go_enter Tryd.func61, Tryd.ntmps61
    go_wp2_with fail
    refine wp_region_ord 10 [(0, true), (1, true), (2, true), (3, true), (4, true), (7, true), (8, true), (5, false), (6, true), (9, true)] (by kernel_rfl) (by kernel_rfl) ?_
    have hgd : Grows w w.drew := (Grows.refl w).drew
    have hLT := hrt.later hgd
    have hLA := hr.later hgd
    have ct := HCT.out
    have hO := Grows.refl w.drew
    have hwm : IntKind.i64.wrap (m : Int) = (m : Int) := IntWalk.i64_in _ (by omega)
    clear hrt hr
    generalize w.drew = wd at *
    generalize htk : bs.take m = tk at *
    have HTKK := Lib.hid htk
    clear htk
    have cv1 : ∀ u, Grows wd u → (convert 22 9 (.slice A (m + 4) c)).run Tryd.prog u = .ok (.string ⟨bs.toArray⟩) u := fun u h =>
      run_string_of u 22 5 Tryd.underlying22 Tryd.underlying5 9 Tryd.underlying9 _ A (m + 4) c bs HB.out (hLA.below h)
    repeat (first | (refine ord_cut hO _ ?_ (by simp only [List.getElem?_cons_succ, List.getElem?_cons_zero]; rfl) (by rfl) 22 (.tmp 7) none (some (.tmp 10)) none (by rfl) ?_ ?_; rotate_left; (· (exact ct)); try simp only [Act.put, List.setIfInBounds_toArray, List.set_cons_zero, List.set_cons_succ]) | (refine ord_take hO _ ?_ (by simp only [List.getElem?_cons_succ, List.getElem?_cons_zero]; rfl) (by rfl) ?_ ?_; rotate_left; (· (intro u hu0 hu; (try go_simp); (try with_reducible rfl))); try simp only [Act.put, List.setIfInBounds_toArray, List.set_cons_zero, List.set_cons_succ]) | (refine ord_skip _ (by simp only [List.getElem?_cons_succ, List.getElem?_cons_zero]; rfl) (by rfl) ?_; try simp only [Act.put, List.setIfInBounds_toArray, List.set_cons_zero, List.set_cons_succ]))
    (refine ord_move _ (by simp only [List.getElem?_cons_succ, List.getElem?_cons_zero]; rfl) (by rfl) (fun u hu K hK => ?_); go_simp)
    refine (rput_any A m c tk u HT.out (hLT.later hu) (by omega)).mono ?_
    rintro e w1 ⟨v1, rfl, hown1, hg1⟩
    obtain ⟨A1, c1, rfl, hc1⟩ := own_form hown1
    refine hK.out _ _ hg1 ?_
    clear hK K
    have hL1 := Lies.of_own hown1
    have hl1 : (tk ++ fourC (crcOf tk)).length = m + 4 := by rw [List.length_append, HT.out, four_len]
    have HL1 := Lib.hid hl1
    clear hown1 hl1
    generalize hpt : tk ++ fourC (crcOf tk) = pt at *
    have HPT := Lib.hid hpt
    clear hpt
    have cv2 : ∀ u, Grows w1 u → (convert 22 9 (.slice A1 (m + 4) c1)).run Tryd.prog u = .ok (.string ⟨pt.toArray⟩) u := fun u h =>
      run_string_of u 22 5 Tryd.underlying22 Tryd.underlying5 9 Tryd.underlying9 _ A1 (m + 4) c1 pt HL1.out (hL1.below h)
    have hg01 := Grows.trans hgd (Grows.trans hu hg1)
    have hLA1 := hLA.later (Grows.trans hu hg1)
    have hLT1 := hLT.later (Grows.trans hu hg1)
    have hO := Grows.refl w1
    clear hu hLA hLT cv1 hgd hL1
    repeat (first | (refine ord_take hO _ ?_ (by simp only [List.getElem?_cons_succ, List.getElem?_cons_zero]; rfl) (by rfl) ?_ ?_; rotate_left; (· (intro u hu0 hu; (try go_simp); (try with_reducible rfl))); try simp only [Act.put, List.setIfInBounds_toArray, List.set_cons_zero, List.set_cons_succ]) | (refine ord_skip _ (by simp only [List.getElem?_cons_succ, List.getElem?_cons_zero]; rfl) (by rfl) ?_; try simp only [Act.put, List.setIfInBounds_toArray, List.set_cons_zero, List.set_cons_succ]))
    (refine ord_done (fun u hu => ?_); simp only [List.drop_succ_cons, List.drop_zero])
    have hgu := Grows.trans hg01 hu
    have hLTu := hLT1.later hu
    have ct := HCT.out
    clear hO cv2 hg01 hLT1 hLA1 hu hg1
    refine NoPanic.normal ?_
    generalize hq : (pt == bs) = q
    cases q with
    | true =>
      have HK : Hid (takeOf bs = (tk, 0)) := by show _ = _; rw [HTK.out, if_pos (by simpa using hq)]
      clear hq
      go_wp2_with (with_reducible refine wpList_cut rfl 22 (.tmp 17) none (some (.tmp 20)) none rfl _ (HCT.out _) ?_)
      go_ret2
      rw [HK.out]
      exact ⟨_, c, by rw [HT.out]; rfl, hLTu, hgu⟩
    | false =>
      have HK : Hid (takeOf bs = ([], 7)) := by show _ = _; rw [HTK.out, if_neg (by simpa using hq)]
      clear hq
      go_wp2_with fail
      go_ret2
      rw [HK.out]
      exact ⟨none, 0, rfl, Lies.empty, hgu⟩
end Go.Proofs.YtnokloedbckijaaDoor

/-
  Indexes as lists (mathematics): which may be, their bytes, and what is read of bytes.
-/
namespace Go.Proofs.YtnokloedbckijaaDoor
open Go.RowKit
set_option linter.unusedVariables false
set_option maxRecDepth 20000

/-- An item: a digest's bytes and a size. -/
abbrev Itm := List UInt8 × Int
/-- An index. -/
structure Ixd where
  a : Int
  b : Int
  c : Int
  im : List UInt8
  its : List Itm
def zeroI : Ixd := ⟨0, 0, 0, List.replicate 32 0, []⟩
/-- Its numbers and digests are such as Go has. -/
structure Ixd.Ok (x : Ixd) : Prop where
  a : I64 x.a
  b : I64 x.b
  c : I64 x.c
  im : x.im.length = 32
  its : ∀ it ∈ x.its, it.1.length = 32 ∧ I64 it.2
def total (l : List Itm) : Int := (l.map (·.2)).sum
/-- May this size be, at i of n? -/
def sizeOk (a c : Int) (n i : Nat) (s : Int) : Prop := 1 ≤ s ∧ s ≤ c ∧ (i + 1 < n → a ≤ s)
structure IMay (x : Ixd) : Prop where
  prm : mayZ x.a x.b x.c = true
  few : x.its.length ≤ 4096
  sizes : ∀ i it, x.its[i]? = some it → sizeOk x.a x.c x.its.length i it.2
  total : total x.its ≤ 65536
open Classical in
noncomputable def mayI (x : Ixd) : Bool := decide (IMay x)
theorem mayI_true {x : Ixd} (h : IMay x) : mayI x = true := by unfold mayI; simp [h]
theorem mayI_false {x : Ixd} (h : ¬ IMay x) : mayI x = false := by unfold mayI; simp [h]
theorem mayI_iff {x : Ixd} : mayI x = true ↔ IMay x := by unfold mayI; simp
theorem mayZ_iff {a b c : Int} : mayZ a b c = true ↔ 1 ≤ a ∧ a ≤ b ∧ b ≤ c ∧ c ≤ 4096 := by simp [mayZ]
theorem total_nil : total [] = 0 := rfl
theorem total_append (a b : List Itm) : total (a ++ b) = total a + total b := by simp [total]
theorem total_snoc (l : List Itm) (x : Itm) : total (l ++ [x]) = total l + x.2 := by simp [total]
theorem total_take {l : List Itm} {k : Nat} {x : Itm} (h : l[k]? = some x) : total (l.take (k + 1)) = total (l.take k) + x.2 := by
  rw [List.take_add_one, h, Option.toList_some, total_snoc]
theorem total_bounds {l : List Itm} {c : Int} (h : ∀ it ∈ l, 1 ≤ it.2 ∧ it.2 ≤ c) : 0 ≤ total l ∧ total l ≤ (l.length : Int) * c := by
  induction l with
  | nil => simp [total]
  | cons x l ih =>
    have h1 := h x (by simp)
    have h2 := ih fun y hy => h y (by simp [hy])
    simp only [total, List.map_cons, List.sum_cons, List.length_cons] at h2 ⊢
    push_cast
    rw [Int.add_mul]
    omega
theorem total_mono {l : List Itm} (h : ∀ it ∈ l, 1 ≤ it.2) (k : Nat) : total (l.take k) ≤ total l := by
  have h1 := total_append (l.take k) (l.drop k)
  rw [List.take_append_drop] at h1
  have h2 : 0 ≤ total (l.drop k) := by
    have : ∀ (m : List Itm), (∀ it ∈ m, 1 ≤ it.2) → 0 ≤ total m := by
      intro m hm
      induction m with
      | nil => simp [total]
      | cons x m ih =>
        have g1 := hm x (by simp)
        have g2 := ih fun y hy => hm y (by simp [hy])
        simp only [total, List.map_cons, List.sum_cons] at g2 ⊢
        omega
    exact this _ fun it hi => h it (List.mem_of_mem_drop hi)
  omega

/-- The bytes ahead of the check. -/
def itemBytes (x : Itm) : List UInt8 := x.1 ++ fourC x.2.toNat
def headBytes (x : Ixd) : List UInt8 := [76, 84, 73, 49] ++ fourC x.a.toNat ++ fourC x.b.toNat ++ fourC x.c.toNat ++ x.im ++ fourC x.its.length
def ixBytes (x : Ixd) : List UInt8 := headBytes x ++ (x.its.map itemBytes).flatten
/-- All bytes. -/
def ixAll (x : Ixd) : List UInt8 := ixBytes x ++ fourC (crcOf (ixBytes x))
theorem itemBytes_len {x : Itm} (h : x.1.length = 32) : (itemBytes x).length = 36 := by simp [itemBytes, h, four_len]
theorem flats_len {l : List Itm} (h : ∀ it ∈ l, it.1.length = 32) : ((l.map itemBytes).flatten).length = 36 * l.length := by
  induction l with
  | nil => rfl
  | cons x l ih =>
    simp only [List.map_cons, List.flatten_cons, List.length_append, List.length_cons]
    rw [ih fun y hy => h y (by simp [hy]), itemBytes_len (h x (by simp))]
    omega
theorem headBytes_len {x : Ixd} (h : x.im.length = 32) : (headBytes x).length = 52 := by simp [headBytes, h, four_len]
theorem ixBytes_len {x : Ixd} (h : x.Ok) : (ixBytes x).length = 52 + 36 * x.its.length := by
  rw [ixBytes, List.length_append, headBytes_len h.im, flats_len fun it hi => (h.its it hi).1]
theorem flats_take {l : List Itm} {k : Nat} {x : Itm} (h : l[k]? = some x) : ((l.take (k + 1)).map itemBytes).flatten = ((l.take k).map itemBytes).flatten ++ itemBytes x := by
  rw [List.take_add_one, h, Option.toList_some, List.map_append, List.flatten_append]
  simp

/-- The number of fourC bytes from i on. -/
def numAt (l : List UInt8) (i : Nat) : Nat := numTo ((l.drop i).take 4) 4
theorem numAt_lt (l : List UInt8) (i : Nat) : numAt l i < 4294967296 := numTo_lt _ 4
theorem four_numAt {l : List UInt8} {i : Nat} (h : i + 4 ≤ l.length) : fourC (numAt l i) = (l.drop i).take 4 :=
  ((num_inj _ _ (by simp; omega) (numAt_lt l i)).1 rfl).symm
/-- The items of bytes. -/
def decIts : Nat → List UInt8 → List Itm
  | 0, _ => []
  | k + 1, l => (l.take 32, (numAt l 32 : Int)) :: decIts k (l.drop 36)
theorem decIts_len : ∀ (k : Nat) (l : List UInt8), (decIts k l).length = k
  | 0, _ => rfl
  | k + 1, l => by rw [decIts, List.length_cons, decIts_len k]
theorem decIts_at : ∀ (k : Nat) (l : List UInt8) (i : Nat), i < k → (decIts k l)[i]? = some ((l.drop (36 * i)).take 32, (numAt l (36 * i + 32) : Int))
  | 0, _, _, h => by omega
  | k + 1, l, 0, _ => by simp [decIts]
  | k + 1, l, i + 1, h => by
    rw [decIts, List.getElem?_cons_succ, decIts_at k _ i (by omega), List.drop_drop, numAt, List.drop_drop, numAt]
    rw [show 36 + 36 * i = 36 * (i + 1) by omega, show 36 + (36 * i + 32) = 36 * (i + 1) + 32 by omega]
theorem decIts_ok {k : Nat} {l : List UInt8} (h : l.length = 36 * k) : ∀ it ∈ decIts k l, it.1.length = 32 ∧ I64 it.2 := by
  intro it hi
  obtain ⟨i, hi⟩ := List.mem_iff_getElem?.1 hi
  have hik : i < k := by have := (List.getElem?_eq_some_iff.1 hi).1; rwa [decIts_len] at this
  rw [decIts_at k l i hik] at hi
  injection hi with hi
  subst hi
  have := numAt_lt l (36 * i + 32)
  exact ⟨by simp; omega, by unfold I64; omega⟩
theorem decIts_bytes : ∀ (k : Nat) (l : List UInt8), l.length = 36 * k → ((decIts k l).map itemBytes).flatten = l
  | 0, l, h => by simp at h; subst h; rfl
  | k + 1, l, h => by
    rw [decIts, List.map_cons, List.flatten_cons, decIts_bytes k _ (by rw [List.length_drop]; omega), itemBytes, show ((numAt l 32 : Int)).toNat = numAt l 32 from rfl, four_numAt (by omega), List.append_assoc]
    have h1 : (l.drop 32).take 4 ++ l.drop 36 = l.drop 32 := by
      have := List.take_append_drop 4 (l.drop 32)
      rwa [List.drop_drop] at this
    rw [h1, List.take_append_drop]
/-- The index of bytes, with k items. -/
def decI (k : Nat) (l : List UInt8) : Ixd := ⟨numAt l 4, numAt l 8, numAt l 12, (l.drop 16).take 32, decIts k (l.drop 52)⟩
theorem decI_ok {k : Nat} {l : List UInt8} (h : l.length = 52 + 36 * k) : (decI k l).Ok := by
  have h1 := numAt_lt l 4
  have h2 := numAt_lt l 8
  have h3 := numAt_lt l 12
  exact ⟨by unfold I64 decI; dsimp only; omega, by unfold I64 decI; dsimp only; omega, by unfold I64 decI; dsimp only; omega, by simp [decI]; omega, decIts_ok (by rw [List.length_drop]; omega)⟩
theorem cut4 (l : List UInt8) (i : Nat) : (l.drop i).take 4 ++ l.drop (i + 4) = l.drop i := by
  have := List.take_append_drop 4 (l.drop i)
  rwa [List.drop_drop] at this
/-- Its bytes are these, if the mark and the number of items are. -/
theorem decI_bytes {k : Nat} {l : List UInt8} (h : l.length = 52 + 36 * k) (hk : k < 4294967296) : ixBytes (decI k l) = l ↔ l.take 4 = [76, 84, 73, 49] ∧ numAt l 48 = k := by
  have hi : (decI k l).its.length = k := decIts_len k _
  have hb : ixBytes (decI k l) = [76, 84, 73, 49] ++ ((l.drop 4).take 4 ++ ((l.drop 8).take 4 ++ ((l.drop 12).take 4 ++ ((l.drop 16).take 32 ++ (fourC k ++ l.drop 52))))) := by
    unfold ixBytes headBytes
    rw [hi]
    show [76, 84, 73, 49] ++ fourC (numAt l 4) ++ fourC (numAt l 8) ++ fourC (numAt l 12) ++ (l.drop 16).take 32 ++ fourC k ++ ((decIts k (l.drop 52)).map itemBytes).flatten = _
    rw [decIts_bytes k _ (by rw [List.length_drop]; omega), four_numAt (by omega), four_numAt (by omega), four_numAt (by omega)]
    simp only [List.append_assoc]
  have hl : l = l.take 4 ++ ((l.drop 4).take 4 ++ ((l.drop 8).take 4 ++ ((l.drop 12).take 4 ++ ((l.drop 16).take 32 ++ ((l.drop 48).take 4 ++ l.drop 52))))) := by
    rw [cut4 l 48]
    have h32 : (l.drop 16).take 32 ++ l.drop 48 = l.drop 16 := by
      have := List.take_append_drop 32 (l.drop 16)
      rwa [List.drop_drop] at this
    rw [h32, cut4 l 12, cut4 l 8, cut4 l 4, List.take_append_drop]
  have h48 : (l.drop 48).take 4 = fourC k ↔ numAt l 48 = k := (num_inj _ _ (by simp; omega) hk).symm
  rw [hb]
  constructor
  · intro e0
    have e := e0.trans hl
    have e1 := List.append_inj e (by simp; omega)
    have e2 := List.append_inj e1.2 (by simp)
    have e3 := List.append_inj e2.2 (by simp)
    have e4 := List.append_inj e3.2 (by simp)
    have e5 := List.append_inj e4.2 (by simp)
    have e6 := List.append_inj e5.2 (by simp [four_len]; omega)
    have t1 : l.take 4 = [76, 84, 73, 49] := e1.1.symm
    have t2 : (l.drop 48).take 4 = fourC k := e6.1.symm
    exact ⟨t1, h48.1 t2⟩
  · rintro ⟨e1, e2⟩
    conv => rhs; rw [hl]
    rw [e1, h48.2 e2]
/-- What is read of bytes: the index, and the error's number. -/
noncomputable def readOf (b : List UInt8) : Ixd × Nat :=
  if (takeOf b).2 ≠ 0 then (zeroI, (takeOf b).2)
  else if 52 ≤ (takeOf b).1.length ∧ (takeOf b).1.take 4 = [76, 84, 73, 49] ∧ (takeOf b).1.length = 52 + 36 * numAt (takeOf b).1 48 ∧ mayI (decI (numAt (takeOf b).1 48) (takeOf b).1) = true then (decI (numAt (takeOf b).1 48) (takeOf b).1, 0)
  else (zeroI, 2)
end Go.Proofs.YtnokloedbckijaaDoor
