/-
  Lists of pieces of bytes in memory; the law's collect, same; lives.
-/
import Derived.Test.YtkgkkobdpgnicaaDoorCutG
namespace Go.Proofs.YtkgkkobdpgnicaaDoor
open Go.RowKit Go.Shelf
set_option linter.unusedVariables false
attribute [local go_sem] Oper.semAt_some

theorem slc_info : (Tryd.prog.info? 35).map (fun i => (i.zero, i.size, i.bytes)) = some (some (Value.slice none 0 0), 1, 24) := by kernel_rfl
/-- The pieces l, one by one, the cells es of a row. -/
def Each (ok : Nat → Prop) (w : World) (es : List Value) (l : List (List UInt8)) : Prop := es.length = l.length ∧ ∀ (i : Nat) (x : List UInt8), l[i]? = some x → ∃ (A : Option Addr) (c : Nat), es[i]? = some (Value.slice A x.length c) ∧ x.length ≤ c ∧ LiesIn ok w A (x.map bv)
/-- The value v is a row of its own of the pieces l, which lie apart from it. -/
def PcsIn (base : Nat) (w : World) (v : Value) (l : List (List UInt8)) : Prop := ∃ es, w.ownsRow base 35 1 v l.length es ∧ Each (fun k => base ≤ k ∧ v.ownBlock ≠ some k) w es l
/-- The value v is a slice of the pieces l. -/
def Pcl (w : World) (v : Value) (l : List (List UInt8)) : Prop := ∃ A c es, v = .slice A l.length c ∧ l.length ≤ c ∧ Lies w w.heap.size A es ∧ Each (fun k => k < w.heap.size) w es l
theorem Each.mono {ok ok' : Nat → Prop} {w : World} {es : List Value} {l : List (List UInt8)} (h : Each ok w es l) (hk : ∀ k, k < w.heap.size → ok k → ok' k) : Each ok' w es l :=
  ⟨h.1, fun i x hx => let ⟨A, c, h1, h2, h3⟩ := h.2 i x hx; ⟨A, c, h1, h2, fun j u hu => let ⟨ad, e, ho, hc⟩ := h3 j u hu; ⟨ad, e, hk _ (by have := World.block_lt_of_cell? w _ hc; rwa [add_block] at this) ho, hc⟩⟩⟩
theorem Each.turned {ok S : Nat → Prop} {w w' : World} {es : List Value} {l : List (List UInt8)} (h : Each ok w es l) (ht : Turns S w w') (hS : ∀ k, ok k → ¬ S k) : Each ok w' es l :=
  ⟨h.1, fun i x hx => let ⟨A, c, h1, h2, h3⟩ := h.2 i x hx; ⟨A, c, h1, h2, h3.turned ht hS⟩⟩
theorem Each.later {ok : Nat → Prop} {w w' : World} {es : List Value} {l : List (List UInt8)} (h : Each ok w es l) (hg : Grows w w') : Each ok w' es l :=
  ⟨h.1, fun i x hx => let ⟨A, c, h1, h2, h3⟩ := h.2 i x hx; ⟨A, c, h1, h2, h3.later hg⟩⟩
theorem Each.nil (ok : Nat → Prop) (w : World) : Each ok w [] [] := ⟨rfl, fun i x h => by simp at h⟩
theorem Each.snoc {ok : Nat → Prop} {w : World} {es : List Value} {l : List (List UInt8)} (h : Each ok w es l) {A : Option Addr} {c : Nat} {x : List UInt8} (hc : x.length ≤ c) (hx : LiesIn ok w A (x.map bv)) : Each ok w (es ++ [.slice A x.length c]) (l ++ [x]) := by
  refine ⟨by simp [h.1], fun i y hy => ?_⟩
  rcases Nat.lt_or_ge i l.length with hi | hi
  · rw [List.getElem?_append_left hi] at hy
    obtain ⟨A', c', h1, h2, h3⟩ := h.2 i y hy
    exact ⟨A', c', by rw [List.getElem?_append_left (by rw [h.1]; exact hi)]; exact h1, h2, h3⟩
  · have h4 := (List.getElem?_eq_some_iff.1 hy).1
    have hi' : i = l.length := by simp at h4; omega
    subst hi'
    rw [List.getElem?_append_right (Nat.le_refl _), Nat.sub_self] at hy
    have : x = y := by simpa using hy
    subst this
    exact ⟨A, c, by rw [List.getElem?_append_right (by rw [h.1]; exact Nat.le_refl _), h.1, Nat.sub_self]; rfl, hc, hx⟩
theorem PcsIn.nil (base : Nat) (w : World) : PcsIn base w (.slice none 0 0) [] := ⟨[], World.ownsRow_nil _ _ _ _, Each.nil _ _⟩
theorem PcsIn.later {base : Nat} {w w' : World} {v : Value} {l : List (List UInt8)} (h : PcsIn base w v l) (hg : Grows w w') : PcsIn base w' v l := let ⟨es, h1, h2⟩ := h; ⟨es, own_later h1 hg, h2.later hg⟩
theorem PcsIn.turned {base : Nat} {S : Nat → Prop} {w w' : World} {v : Value} {l : List (List UInt8)} (h : PcsIn base w v l) (ht : Turns S w w') (hS : ∀ k, base ≤ k → ¬ S k) : PcsIn base w' v l :=
  let ⟨es, h1, h2⟩ := h; ⟨es, own_turned h1 ht (fun g hg => hS g (own_ge h1 g hg)), h2.turned ht (fun k hk => hS k hk.1)⟩
theorem own_base {base base' : Nat} {w : World} {e : TypeId} {size : Nat} {v : Value} {n : Nat} {xs : List Value} (h : w.ownsRow base e size v n xs) (hb : base' ≤ base) : w.ownsRow base' e size v n xs :=
  ⟨h.1, h.2.imp id fun ⟨g, cap, cur, h1, h2, h3⟩ => ⟨g, cap, cur, h1, by omega, h3⟩⟩
theorem PcsIn.base {base base' : Nat} {w : World} {v : Value} {l : List (List UInt8)} (h : PcsIn base w v l) (hb : base' ≤ base) : PcsIn base' w v l :=
  let ⟨es, h1, h2⟩ := h; ⟨es, own_base h1 hb, h2.mono fun k _ hk => ⟨by omega, hk.2⟩⟩
theorem PcsIn.pcl {base : Nat} {w : World} {v : Value} {l : List (List UInt8)} (h : PcsIn base w v l) : Pcl w v l := by
  obtain ⟨es, h1, h2⟩ := h
  obtain ⟨A, c, rfl, hc⟩ := own_form h1
  exact ⟨A, c, es, rfl, hc, Lies.of_own h1, h2.mono fun k hk _ => hk⟩
theorem Pcl.later {w w' : World} {v : Value} {l : List (List UInt8)} (h : Pcl w v l) (hg : Grows w w') : Pcl w' v l :=
  let ⟨A, c, es, h1, h2, h3, h4⟩ := h; ⟨A, c, es, h1, h2, h3.later hg, (h4.later hg).mono fun k hk _ => hk⟩
theorem own_lt {base : Nat} {w : World} {e : TypeId} {size : Nat} {v : Value} {n : Nat} {xs : List Value} (h : w.ownsRow base e size v n xs) : ∀ g, v.ownBlock = some g → g < w.heap.size := fun g hg => by
  rcases h.2 with ⟨rfl, _⟩ | ⟨g', cap, cur, rfl, h1, h2, _⟩
  · simp [Value.ownBlock] at hg
  · simp [Value.ownBlock] at hg
    subst hg
    exact (Array.getElem?_eq_some_iff.1 h2).1
/-- Behind an append of one piece. -/
theorem lies_grown {W W1 w4 : World} {m : Nat} {A : Option Addr} {vs : List Value} {v0 v' : Value} (h : LiesIn (fun k => m ≤ k ∧ v0.ownBlock ≠ some k) W A vs) (h1 : Grows W W1) (hg : W1.grownBy w4 v0.ownBlock) (hat : v'.ownBlock = v0.ownBlock ∨ v'.ownBlock = some W1.heap.size) :
    LiesIn (fun k => m ≤ k ∧ v'.ownBlock ≠ some k) w4 A vs := fun j u hu => by
  obtain ⟨ad, e, ⟨ho, hn⟩, hc⟩ := h j u hu
  have hc1 := hcell_later hc h1
  have hlt := World.block_lt_of_cell? W1 _ hc1
  rw [add_block] at hlt
  refine ⟨ad, e, ⟨ho, ?_⟩, hg.cell hc1 (fun e => by rw [add_block] at e; exact hn e.symm)⟩
  rcases hat with h | h
  · rw [h]; exact hn
  · rw [h]; intro e; injection e with e; omega
theorem each_grown {W W1 w4 : World} {m : Nat} {es : List Value} {l : List (List UInt8)} {v0 v' : Value} (h : Each (fun k => m ≤ k ∧ v0.ownBlock ≠ some k) W es l) (h1 : Grows W W1) (hg : W1.grownBy w4 v0.ownBlock) (hat : v'.ownBlock = v0.ownBlock ∨ v'.ownBlock = some W1.heap.size) :
    Each (fun k => m ≤ k ∧ v'.ownBlock ≠ some k) w4 es l := ⟨h.1, fun i x hx => let ⟨A, c, a, b, d⟩ := h.2 i x hx; ⟨A, c, a, b, lies_grown d h1 hg hat⟩⟩

set_option maxRecDepth 20000 in
set_option maxHeartbeats 2000000 in
theorem collect_any (p : Prm) (hp : p.Ok) (A : Option Addr) (n c : Nat) (bs : List UInt8) (w : World) (hl : bs.length = n) (hnc : n ≤ c) (hr : Lies w w.heap.size A (bs.map bv)) (hs : Starts w) (hn : n ≤ 1000000) :
    Calls Tryd.prog 18 #[.slice A n c, pv p] w fun e w' => ∃ v, e = .returned v ∧ PcsIn w.heap.size w' v (chunksOf p bs) ∧ Grows w w' := by
  have hb0 := Has.new w 23 [.int .i64 (p.mn : Int), .int .i64 (p.av : Int), .int .i64 (p.mx : Int)]
  have hg0 := grows_alloc w (.cells [.int .i64 (p.mn : Int), .int .i64 (p.av : Int), .int .i64 (p.mx : Int)].toArray 23)
  have hs0 : (w.alloc (.cells [.int .i64 (p.mn : Int), .int .i64 (p.av : Int), .int .i64 (p.mx : Int)].toArray 23)).heap.size = w.heap.size + 1 := by simp
  have hx1 := Has.new (w.alloc (.cells [.int .i64 (p.mn : Int), .int .i64 (p.av : Int), .int .i64 (p.mx : Int)].toArray 23)) 42 [.slice none 0 0]
  have hgx := grows_alloc (w.alloc (.cells [.int .i64 (p.mn : Int), .int .i64 (p.av : Int), .int .i64 (p.mx : Int)].toArray 23)) (.cells [.slice none 0 0].toArray 42)
  have hb1 := hb0.later hgx
  have P0 := hb1.cell (k := 0) rfl
  have P1 := hb1.cell (k := 1) rfl
  have P2 := hb1.cell (k := 2) rfl
  have hg1 := Grows.trans hg0 hgx
  have AL := fun u (h : Grows w u) => all_any p hp A n c bs u hl hnc (hr.later h) (hs.later h) hn
  have hpz : pv p = .agg #[.int .i64 p.mn, .int .i64 p.av, .int .i64 p.mx] := rfl
  rw [hpz] at *
  have AL := Lib.hid AL
  rw [hs0] at hx1
  refine calls_marks Tryd.func18 rfl ?_
  simp only [Tryd.ntmps18, List.size_toArray, List.length_cons, List.length_nil, Nat.reduceAdd, Nat.reduceSub, Array.replicate_succ, Array.replicate_zero, List.push_toArray, List.append_toArray, List.nil_append, List.cons_append]
  gi_wp2_with fail
  refine call_wide (AL.out _ hg1) ?_
  rintro e w3 ⟨bb, bp, rfl, hbb, hbp, hbl, hpl, hseq, hg3⟩
  have hx3 := hx1.later hg3
  have hgw3 := Grows.trans hg1 hg3
  have hfe : ∀ u, (binOp .eql 56 (.func (.func 40) #[] #[.pointer (some ⟨bb, 0, none⟩), .pointer (some ⟨bp, 0, none⟩)]) .nilFunc).run Tryd.prog u = .ok (.bool false) u := fun u => by kernel_rfl
  have hxl := hx3.lt
  have hz := hs.pos
  have hsz3 := hgw3.size
  have hsz1 := hg1.size
  have hbx1 : w.heap.size + 1 < (w.alloc (.cells [.int .i64 (p.mn : Int), .int .i64 (p.av : Int), .int .i64 (p.mx : Int)].toArray 23)).heap.size + 1 := by rw [hs0]; omega
  rw [← World.size_alloc (w.alloc (.cells [.int .i64 (p.mn : Int), .int .i64 (p.av : Int), .int .i64 (p.mx : Int)].toArray 23)) (.cells [.slice none 0 0].toArray 42)] at hbx1
  gi_wp2_with fail
  obtain ⟨bx, hbx⟩ : ∃ k, k = w.heap.size + 1 := ⟨_, rfl⟩
  rw [← hbx] at hx3 hxl hbx1 ⊢
  have hbx0 : w.heap.size < bx := by omega
  clear hbx
  refine wp_range (gf := 40) (lb := #[.pointer (some ⟨bb, 0, none⟩), .pointer (some ⟨bp, 0, none⟩)]) rfl (enters_of Tryd.func40 (by kernel_rfl) rfl) rfl hseq ?gInp (fun k => k = bx) ?gO (fun k h => by rw [h]; exact hxl)
    (fun m pre W => ∃ v, Has W bx [v] ∧ PcsIn m W v pre ∧ Grows w W) (fun _ _ _ _ => False) ?gI (fun _ _ _ _ _ h _ => h) ?gh0
    (fun v => { tmps := #[.slice A n c, .agg #[.int .i64 p.mn, .int .i64 p.av, .int .i64 p.mx], undef, .pointer (some ⟨w.heap.size, 0, none⟩), .slice none 0 0, .pointer (some ⟨bx, 0, none⟩), .func (.func 40) #[] #[.pointer (some ⟨bb, 0, none⟩), .pointer (some ⟨bp, 0, none⟩)], v, .slice A n c,
      .agg #[.int .i64 p.mn, .int .i64 p.av, .int .i64 p.mx], .func (.func 40) #[] #[.pointer (some ⟨bb, 0, none⟩), .pointer (some ⟨bp, 0, none⟩)], .func (.func 40) #[] #[.pointer (some ⟨bb, 0, none⟩), .pointer (some ⟨bp, 0, none⟩)], .bool false,
      .func (.func 40) #[] #[.pointer (some ⟨bb, 0, none⟩), .pointer (some ⟨bp, 0, none⟩)], v, undef, undef, undef, undef, undef], defers := [] })
    ?gassign ?gA ?gbody ?gdone (fun _ _ _ _ _ _ _ _ _ h _ => h.elim)
  case gInp => rintro k (⟨_, h⟩ | rfl) <;> omega
  case gO => rintro k (⟨h, _⟩ | rfl) h' <;> omega
  case gI =>
    rintro m pre A' B' ⟨v, h1, h2, h3⟩ ht
    exact ⟨v, h1.turned ht (fun h => by have := h.1; omega), h2.turned ht (fun k hk h => by have := h.2; omega), turns_then_grows h3 ht (fun k h => Nat.le_trans hsz3 h.1)⟩
  case gh0 => exact fun m W1 _ _ hg => ⟨_, hx3.later hg, PcsIn.nil _ _, Grows.trans hgw3 hg⟩
  case gassign =>
    intro l v W K hK
    gi_wp2
    exact hK
  case gA =>
    rintro m W0 x v A' B' h1 h2 h ht
    exact own_turned h ht (fun g hg h => by have := own_ge ‹_› g hg; have := h.2; omega)
  case gdone =>
    rintro D m W4 hm hmW rfl ⟨v, hx, hrow, hgw⟩ hD
    have hc := hx.cell (k := 0) rfl
    gi_wp2
    have ht := turns_putObj (S := fun k => k = w3.heap.size) W4 w3.heap.size (.deferred none) rfl
    exact marks_ret hD (fun u => results_tmp rfl _ _ _) ⟨v, rfl, (hrow.turned ht (fun k hk h => by omega)).base (by omega), turns_then_grows hgw ht (fun k h => by rw [h]; exact hsz3)⟩
  case gbody =>
    rintro l' m pre x v W0 W4 hm hmW0 ⟨v0, hx0, ⟨es, hown0, heach0⟩, hgw0⟩ _ hT0 hpre hav
    have hx := hx0.turned hT0 (fun h => by have := h.1; omega)
    have hown := own_turned hown0 hT0 (fun g hg h => by have := own_ge hown0 g hg; have := h.2; omega)
    have heach := heach0.turned hT0 (fun k hk h => by have := hk.1; have := h.2; omega)
    have hgw := turns_then_grows hgw0 hT0 (fun k h => Nat.le_trans hsz3 h.1)
    have hmW := Nat.le_trans hmW0 hT0.size
    have hlt0 := fun g hg => (own_lt hown0 g hg : g < W0.heap.size)
    have hav' : W4.ownsRow W0.heap.size 5 1 v x.length (x.map bv) := hav
    obtain ⟨Ax, cx, rfl, hxc⟩ := own_form hav'
    have hlx := LiesIn.of_own hav'
    clear hx0 heach0 hgw0 hav hT0
    have hlen : pre.length + 1 ≤ 1000000 := by
      have h1 := hpre.length_le
      have h2 := chunks_len p bs
      rw [List.length_append, List.length_singleton] at h1
      omega
    have hc := hx.cell (k := 0) rfl
    obtain ⟨i0, hi0, hz0, hz1, hz2⟩ := info_parts slc_info
    have HC := fun (w4 : World) (h : (W4.alloc (.cells #[.slice Ax x.length cx] 35)).grownBy w4 v0.ownBlock) => coll_app (row := none) hx (by omega) hown (grows_alloc W4 _) h
    have HE := fun (v' : Value) (w4 : World) (h : (W4.alloc (.cells #[.slice Ax x.length cx] 35)).grownBy w4 v0.ownBlock) (hat : v'.ownBlock = v0.ownBlock ∨ v'.ownBlock = some (W4.alloc (.cells #[.slice Ax x.length cx] 35)).heap.size) =>
      (show Each (fun k => m ≤ k ∧ v'.ownBlock ≠ some k) w4 (es ++ [.slice Ax x.length cx]) (pre ++ [x]) from (each_grown heach (grows_alloc W4 _) h hat).snoc hxc (lies_grown (v0 := v0) (fun j u hu => by
        obtain ⟨ad, e, ⟨h1, h2⟩, h3⟩ := hlx j u hu
        exact ⟨ad, e, ⟨by omega, fun e => by have := hlt0 _ e; omega⟩, h3⟩) (grows_alloc W4 _) h hat))
    have HLN : Hid ((pre ++ [x]).length = pre.length + 1) := by show _ = _; simp
    have HC := Lib.hid HC
    have HE := Lib.hid HE
    gi_wp2_with (gi_at_builtin; go_loud (refine wpListIn_append_own_at _ rfl (.tmp 15) (.tmp 17) _ rfl m 35 i0 _ 1 24 Tryd.underlying42 hi0 hz0 hz1 hz2 rfl (by decide) v0 pre.length _ rfl (hown.alloc _) ⟨W4.heap.size, 0, none⟩ 1 1 [.slice Ax x.length cx] rfl rfl (cell_one_new _ _ _) (by simp [Value.oneCell']) (by unfold maxLen; omega) (by omega) (by rw [World.size_alloc]; omega) ?_; intro v' w4 hown' hg' hnil' hat'; obtain ⟨hx4, ht4⟩ := HC.out w4 hg'; have he4 := HE.out v' w4 hg' hat'; have hc4 := hx4.cell (k := 0) rfl; have hf4 := hx4.free 0; obtain ⟨hx5, ho5, ht5⟩ := coll_set hx4 (by omega) hown' ht4; have he5 := he4.turned (Turns.of_set (S := fun k => k = bx) (b := bx) (o := 0) w4 v' rfl) (fun k hk h => by have := hk.1; omega); obtain ⟨A5, c5, rfl, _⟩ := own_form hown'))
    exact ⟨ht5, _, hx5, ⟨_, by rw [HLN.out]; exact ho5, he5⟩, turns_then_grows hgw ht5 (fun k h => h.elim (fun h => by omega) (fun h => by omega))⟩
end Go.Proofs.YtkgkkobdpgnicaaDoor
