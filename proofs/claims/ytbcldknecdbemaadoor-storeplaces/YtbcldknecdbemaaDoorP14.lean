/-
  Contracts, joined (RkA RkB RkC RkD RkE).
-/
import Derived.Test.YtbcldknecdbemaaDoorP12
import Derived.Test.YtbcldknecdbemaaDoorP11
import Derived.Deep.QuietTactic
import Derived.BigQuiet
import Derived.Test.YtbcldknecdbemaaDoorP13

/-
  The reference's disks in memory; its Named, Find, Used.
-/
namespace Go.Proofs.YtbcldknecdbemaaDoor
open Go.RowKit
set_option linter.unusedVariables false
set_option maxRecDepth 20000

def fC (x : Byts × Byts) : List Value := [tv x.1, tv x.2]
theorem fC_len (S : Fls) : ∀ r ∈ S.map fC, r.length = 2 := fun r hr => by
  obtain ⟨x, _, rfl⟩ := List.mem_map.1 hr
  rfl
theorem fC_one (S : Fls) : ∀ u ∈ (S.map fC).flatten, u.oneCell' = true := fun u hu => by
  obtain ⟨r, hr, hu⟩ := List.mem_flatten.1 hu
  obtain ⟨x, _, rfl⟩ := List.mem_map.1 hr
  simp [fC] at hu
  rcases hu with rfl | rfl <;> rfl
/-- A list of files, as a value. -/
def FsV (w : World) (ok : Nat → Prop) (v : Value) (S : Fls) : Prop := ∃ A c, v = .slice A S.length c ∧ S.length ≤ c ∧ c ≤ maxLen ∧ LiesIn ok w A (S.map fC).flatten ∧ (A = none ∨ ∃ g, A = some ⟨g, 0, none⟩)
section
variable {w w' : World} {ok ok' Q : Nat → Prop} {v : Value} {S : Fls}
theorem FsV.later (h : FsV w ok v S) (hg : Grows w w') : FsV w' ok v S := by
  obtain ⟨A, c, a, b, d, e, f⟩ := h
  exact ⟨A, c, a, b, d, e.later hg, f⟩
theorem FsV.turned (h : FsV w ok v S) (ht : Turns Q w w') (hQ : ∀ k, ok k → ¬ Q k) : FsV w' ok v S := by
  obtain ⟨A, c, a, b, d, e, f⟩ := h
  exact ⟨A, c, a, b, d, e.turned ht hQ, f⟩
theorem FsV.mono (h : FsV w ok v S) (hk : ∀ k, ok k → ok' k) : FsV w ok' v S := by
  obtain ⟨A, c, a, b, d, e, f⟩ := h
  exact ⟨A, c, a, b, d, e.mono hk, f⟩
theorem FsV.nil (w : World) (ok : Nat → Prop) : FsV w ok (.slice none 0 0) [] := ⟨none, 0, rfl, Nat.le_refl _, Nat.zero_le _, fun j u hu => by simp at hu, .inl rfl⟩
theorem lies_cut {A : Option Addr} {vs : List Value} (h : LiesIn ok w A vs) : LiesIn (fun k => ok k ∧ k < w.heap.size) w A vs := fun j u hu => by
  obtain ⟨ad, e, ho, hc⟩ := h j u hu
  have := World.block_lt_of_cell? w _ hc
  rw [add_block] at this
  exact ⟨ad, e, ⟨ho, this⟩, hc⟩
theorem FsV.cut (h : FsV w ok v S) : FsV w (fun k => ok k ∧ k < w.heap.size) v S := by
  obtain ⟨A, c, a, b, d, e, f⟩ := h
  exact ⟨A, c, a, b, d, lies_cut e, f⟩
theorem FsV.at_ {A : Option Addr} {n c : Nat} (h : FsV w ok (.slice A n c) S) {i : Nat} {x : Byts × Byts} (hi : S[i]? = some x) : ∃ g, A = some ⟨g, 0, none⟩ ∧ w.cell? ⟨g, i * 2, none⟩ = some (tv x.1) ∧ w.cell? ⟨g, i * 2 + 1, none⟩ = some (tv x.2) := by
  obtain ⟨A', c', e1, h1, h2, h3, h4⟩ := h
  injection e1 with e1 _ _
  subst e1
  have hi' : (S.map fC)[i]? = some (fC x) := by rw [List.getElem?_map, hi]; rfl
  obtain ⟨ad, e, _, hc⟩ := h3 _ _ (flat_at (fC_len S) hi' (j := 0) rfl)
  obtain ⟨ad', e', _, hc'⟩ := h3 _ _ (flat_at (fC_len S) hi' (j := 1) rfl)
  subst e
  injection e' with e'
  subst e'
  rcases h4 with h4 | ⟨g, h4⟩
  · cases h4
  · injection h4 with h4
    subst h4
    rw [add_plain, Nat.zero_add] at hc hc'
    exact ⟨g, rfl, hc, hc'⟩
theorem FsV.form (h : FsV w ok v S) : ∃ A c, v = .slice A S.length c := by
  obtain ⟨A, c, a, _⟩ := h
  exact ⟨A, c, a⟩
end
/-- Where a file stands; -1: nowhere. -/
def findI : Fls → Byts → Nat → Int
  | [], _, _ => -1
  | x :: r, p, i => if x.1 = p then (i : Int) else findI r p (i + 1)
theorem findI_spec (p : Byts) : ∀ (S : Fls) (i : Nat), (findI S p i = -1 ∧ fGet S p = none) ∨ ∃ j b, findI S p i = ((i + j : Nat) : Int) ∧ S[j]? = some (p, b) ∧ fGet S p = some b
  | [], i => .inl ⟨rfl, rfl⟩
  | x :: r, i => by
    unfold findI
    rw [fGet_cons]
    by_cases h : x.1 = p
    · rw [if_pos h, if_pos h]
      exact .inr ⟨0, x.2, rfl, by rw [← h]; rfl, rfl⟩
    · rw [if_neg h, if_neg h]
      rcases findI_spec p r (i + 1) with h1 | ⟨j, b, h1, h2, h3⟩
      · exact .inl h1
      · exact .inr ⟨j + 1, b, by rw [h1]; congr 1; omega, by simpa using h2, h3⟩
theorem tix_any (l : Byts) (k : Nat) (b : UInt8) (h : l[k]? = some b) (w : World) : (Instr.index 9 (tv l) (.int .i64 (k : Int))).run Tryd.prog w = .ok (bv b) w := by
  obtain ⟨hk, e⟩ := List.getElem?_eq_some_iff.1 h
  rw [run_index_string w 9 _ .i64 (k : Int) Tryd.underlying9, dif_pos ⟨by omega, by rw [size_mk]; omega⟩]
  have : ((⟨l.toArray⟩ : ByteArray)[(k : Int).toNat]'(by rw [size_mk]; omega)) = l[k] := rfl
  rw [this, e]
theorem sum_sub {l l' : List Nat} (h : l'.Sublist l) : l'.sum ≤ l.sum := by
  induction h with
  | slnil => exact Nat.le_refl _
  | cons x _ ih => simp; omega
  | cons_cons x _ ih => simp; omega
theorem f_size : (Tryd.prog.info? 250).map (·.size) = some 2 := by kernel_rfl

theorem used_take (S : Fls) (k : Nat) {x : Byts × Byts} (h : S[k]? = some x) : fUsed (S.take (k + 1)) = fUsed (S.take k) + x.2.length := by
  rw [take_at h]; simp [fUsed]
theorem used_le (S : Fls) (k : Nat) : fUsed (S.take k) ≤ fUsed S := by
  have : (S.take k).Sublist S := List.take_sublist k S
  unfold fUsed
  exact sum_sub (this.map _)
/-- The reference's disk, as a value. -/
abbrev dV (D : Dk) (sv lv wv : Value) : Value := .agg #[rv D.room, sv, lv, wv, rv D.power]
end Go.Proofs.YtbcldknecdbemaaDoor

/-
  The reference's without, with.
-/
namespace Go.Proofs.YtbcldknecdbemaaDoor
open Go.RowKit
set_option linter.unusedVariables false
set_option maxRecDepth 20000

/-- Blocks that are ok, or new since w. -/
abbrev Nw (w : World) (ok : Nat → Prop) (k : Nat) : Prop := ok k ∨ w.heap.size ≤ k
theorem f_info : (Tryd.prog.info? 250).map (fun i => (i.zero, i.size, i.bytes)) = some (some (.agg #[.string ⟨#[]⟩, .string ⟨#[]⟩]), 2, 32) := by kernel_rfl
theorem FsV.own {w : World} {base : Nat} {v : Value} {S : Fls} {ok : Nat → Prop} (h : w.ownsRow base 250 2 v S.length (S.map fC).flatten) (hb : ∀ k, base ≤ k → ok k) : FsV w ok v S := by
  rcases h.2 with ⟨rfl, h0⟩ | ⟨g, c, cur, rfl, hg, hh, hnc, hm, hs, ht⟩
  · have : S = [] := by
      cases S with
      | nil => rfl
      | cons x r => simp [fC] at h0
    subst this
    exact FsV.nil _ _
  · refine ⟨_, c, rfl, hnc, hm, fun j u hu => ⟨_, rfl, hb g hg, ?_⟩, .inr ⟨g, rfl⟩⟩
    rw [add_plain, Nat.zero_add, cell_of_row w g _ cur 250 (0, 0) hh]
    have h2 : (cur.toList.take (S.length * 2))[j]? = some u := by rw [ht]; exact hu
    rw [List.getElem?_take] at h2
    split at h2
    · simpa using h2
    · cases h2
theorem load_f {w : World} {g j : Nat} {x : Byts × Byts} (h0 : w.cell? ⟨g, j, none⟩ = some (tv x.1)) (h1 : w.cell? ⟨g, j + 1, none⟩ = some (tv x.2)) : (Instr.loadAt 250 (.pointer (some ⟨g, j, none⟩))).run Tryd.prog w = .ok (.agg #[tv x.1, tv x.2]) w :=
  range_load (cs := [tv x.1, tv x.2]) (fun i u hu => by
    match i, hu with
    | 0, hu => simp at hu; rw [← hu]; exact h0
    | 1, hu => simp at hu; rw [← hu]; exact h1) Tryd.underlying250 rfl f_size
theorem fC_snoc (S : Fls) (x : Byts × Byts) : ((S ++ [x]).map fC).flatten = (S.map fC).flatten ++ fC x := by simp
theorem run_tge (t : TypeId) (x y : Byts) : binOp .geq t (tv x) (tv y) = (pure (.bool !(decide (cmpB x y = -1))) : Sem Value) := by
  rw [show binOp .geq t (tv x) (tv y) = pure (.bool !(Op.bytesLess (⟨x.toArray⟩ : ByteArray).toList (⟨y.toArray⟩ : ByteArray).toList)) by simp [binOp, Op.stringOp], toList_mk, toList_mk, less_cmp]
end Go.Proofs.YtbcldknecdbemaaDoor

/-
  The reference's Make; changes as values.
-/
namespace Go.Proofs.YtbcldknecdbemaaDoor
open Go.RowKit
set_option linter.unusedVariables false
set_option maxRecDepth 20000

/-- A change as the reference has it. -/
def cC : Chg → List Value
  | .wr p b => [rv 0, tv p, tv [], tv b]
  | .rn p q => [rv 1, tv p, tv q, tv []]
  | .rm p => [rv 2, tv p, tv [], tv []]
theorem cC_len (c : Chg) : (cC c).length = 4 := by cases c <;> rfl
theorem cC_one (c : Chg) : ∀ u ∈ cC c, u.oneCell' = true := by cases c <;> (intro u hu; simp [cC] at hu; rcases hu with rfl | rfl | rfl | rfl <;> rfl)
section
variable (v : Value) (S : Fls) (w : World) (ok : Nat → Prop)
end
/-- A list of changes, as a value. -/
def CsV (w : World) (ok : Nat → Prop) (v : Value) (l : List Chg) : Prop := ∃ A c, v = .slice A l.length c ∧ l.length ≤ c ∧ c ≤ maxLen ∧ LiesIn ok w A (l.map cC).flatten ∧ (A = none ∨ ∃ g, A = some ⟨g, 0, none⟩)
section
variable {w w' : World} {ok ok' Q : Nat → Prop} {v : Value} {l : List Chg}
theorem CsV.later (h : CsV w ok v l) (hg : Grows w w') : CsV w' ok v l := by
  obtain ⟨A, c, a, b, d, e, f⟩ := h
  exact ⟨A, c, a, b, d, e.later hg, f⟩
theorem CsV.turned (h : CsV w ok v l) (ht : Turns Q w w') (hQ : ∀ k, ok k → ¬ Q k) : CsV w' ok v l := by
  obtain ⟨A, c, a, b, d, e, f⟩ := h
  exact ⟨A, c, a, b, d, e.turned ht hQ, f⟩
theorem CsV.mono (h : CsV w ok v l) (hk : ∀ k, ok k → ok' k) : CsV w ok' v l := by
  obtain ⟨A, c, a, b, d, e, f⟩ := h
  exact ⟨A, c, a, b, d, e.mono hk, f⟩
theorem CsV.cut (h : CsV w ok v l) : CsV w (fun k => ok k ∧ k < w.heap.size) v l := by
  obtain ⟨A, c, a, b, d, e, f⟩ := h
  exact ⟨A, c, a, b, d, lies_cut e, f⟩
theorem CsV.nil (w : World) (ok : Nat → Prop) : CsV w ok (.slice none 0 0) [] := ⟨none, 0, rfl, Nat.le_refl _, Nat.zero_le _, fun j u hu => by simp at hu, .inl rfl⟩
theorem CsV.form (h : CsV w ok v l) : ∃ A c, v = .slice A l.length c := by
  obtain ⟨A, c, a, _⟩ := h
  exact ⟨A, c, a⟩
theorem cCs_len (l : List Chg) : ∀ r ∈ l.map cC, r.length = 4 := fun r hr => by
  obtain ⟨x, _, rfl⟩ := List.mem_map.1 hr
  exact cC_len x
theorem cCs_one (l : List Chg) : ∀ u ∈ (l.map cC).flatten, u.oneCell' = true := fun u hu => by
  obtain ⟨r, hr, hu⟩ := List.mem_flatten.1 hu
  obtain ⟨x, _, rfl⟩ := List.mem_map.1 hr
  exact cC_one x u hu
theorem CsV.own {base : Nat} (h : w.ownsRow base 252 4 v l.length (l.map cC).flatten) (hb : ∀ k, base ≤ k → ok k) : CsV w ok v l := by
  rcases h.2 with ⟨rfl, h0⟩ | ⟨g, c, cur, rfl, hg, hh, hnc, hm, hs, ht⟩
  · have : l = [] := by
      cases l with
      | nil => rfl
      | cons x r =>
        simp at h0
    subst this
    exact CsV.nil _ _
  · refine ⟨_, c, rfl, hnc, hm, fun j u hu => ⟨_, rfl, hb g hg, ?_⟩, .inr ⟨g, rfl⟩⟩
    rw [add_plain, Nat.zero_add, cell_of_row w g _ cur 252 (0, 0) hh]
    have h2 : (cur.toList.take (l.length * 4))[j]? = some u := by rw [ht]; exact hu
    rw [List.getElem?_take] at h2
    split at h2
    · simpa using h2
    · cases h2
theorem CsV.at_ {A : Option Addr} {n c : Nat} (h : CsV w ok (.slice A n c) l) {i : Nat} {x : Chg} (hi : l[i]? = some x) : ∃ g, A = some ⟨g, 0, none⟩ ∧ w.rangeAt g (i * 4) (cC x) := by
  obtain ⟨A', c', e1, h1, h2, h3, h4⟩ := h
  injection e1 with e1 _ _
  subst e1
  have hi' : (l.map cC)[i]? = some (cC x) := by rw [List.getElem?_map, hi]; rfl
  obtain ⟨u0, hu0⟩ : ∃ u, (cC x)[0]? = some u := by cases x <;> exact ⟨_, rfl⟩
  rcases h4 with h4 | ⟨g, h4⟩
  · obtain ⟨ad, e, _⟩ := h3 _ _ (flat_at (cCs_len l) hi' hu0)
    rw [h4] at e; cases e
  · refine ⟨g, h4, fun j u hu => ?_⟩
    obtain ⟨ad, e, _, hc⟩ := h3 _ _ (flat_at (cCs_len l) hi' hu)
    rw [h4] at e
    injection e with e
    subst e
    rw [add_plain, Nat.zero_add] at hc
    exact hc
end
end Go.Proofs.YtbcldknecdbemaaDoor

/-
  The reference's do.
-/
namespace Go.Proofs.YtbcldknecdbemaaDoor
open Go.RowKit
set_option linter.unusedVariables false
set_option maxRecDepth 20000

/-- The reference's disk in memory. -/
structure RDk (w : World) (ok : Nat → Prop) (sv lv wv : Value) (D : Dk) : Prop where
  seen : FsV w ok sv D.seen
  lasts : FsV w ok lv D.lasts
  waits : CsV w ok wv D.waits
section
variable {w w' : World} {ok ok' Q : Nat → Prop} {sv lv wv : Value} {D : Dk}
theorem RDk.later (h : RDk w ok sv lv wv D) (hg : Grows w w') : RDk w' ok sv lv wv D := ⟨h.seen.later hg, h.lasts.later hg, h.waits.later hg⟩
theorem RDk.turned (h : RDk w ok sv lv wv D) (ht : Turns Q w w') (hQ : ∀ k, ok k → ¬ Q k) : RDk w' ok sv lv wv D := ⟨h.seen.turned ht hQ, h.lasts.turned ht hQ, h.waits.turned ht hQ⟩
theorem RDk.mono (h : RDk w ok sv lv wv D) (hk : ∀ k, ok k → ok' k) : RDk w ok' sv lv wv D := ⟨h.seen.mono hk, h.lasts.mono hk, h.waits.mono hk⟩
theorem RDk.cut (h : RDk w ok sv lv wv D) : RDk w (fun k => ok k ∧ k < w.heap.size) sv lv wv D := ⟨h.seen.cut, h.lasts.cut, h.waits.cut⟩
end
theorem three_b (w : World) (A B C : List Value) (ta tb tc : TypeId) (w3 : World) (h : w3 = ((w.alloc (.cells A.toArray ta)).alloc (.cells B.toArray tb)).alloc (.cells C.toArray tc)) :
    Has w3 w.heap.size A ∧ Has w3 (w.heap.size + 1) B ∧ Has w3 (w.heap.size + 2) C ∧ Grows w w3 ∧ w3.heap.size = w.heap.size + 3 := by
  subst h
  have h1 := Has.new w ta A
  have h2 := Has.new (w.alloc (.cells A.toArray ta)) tb B
  have h3 := Has.new ((w.alloc (.cells A.toArray ta)).alloc (.cells B.toArray tb)) tc C
  rw [World.size_alloc] at h2
  rw [World.size_alloc, World.size_alloc] at h3
  refine ⟨(h1.later (grows_alloc _ _)).later (grows_alloc _ _), h2.later (grows_alloc _ _), h3, Grows.trans (grows_alloc _ _) (Grows.trans (grows_alloc _ _) (grows_alloc _ _)), by simp⟩
theorem c_info : (Tryd.prog.info? 252).map (fun i => (i.zero, i.size, i.bytes)) = some (some (.agg #[.int .i64 0, .string ⟨#[]⟩, .string ⟨#[]⟩, .string ⟨#[]⟩]), 4, 56) := by kernel_rfl
theorem d_size : (Tryd.prog.info? 89).map (·.size) = some 5 := by kernel_rfl
end Go.Proofs.YtbcldknecdbemaaDoor

/-
  The reference's New, Read, Write.
-/
namespace Go.Proofs.YtbcldknecdbemaaDoor
open Go.RowKit
set_option linter.unusedVariables false
set_option maxRecDepth 20000

theorem res_has_two {P : Program} {fn : Func} {p q b : Nat} {t : TypeId} {d : TypeDesc} {vs : List Value} {w : World} (h : fn.results = #[.cell p t, .tmp q]) (tmps : Array Value) (hp : tmps.getD p undef = .pointer (some ⟨b, 0, none⟩))
    (ht : P.underlying t = some d) (hd : d.isRow = true) (hi : (P.info? t).map (·.size) = some vs.length) (hb : Has w b vs) : (results fn tmps).run P w = .ok (.tuple #[.agg vs.toArray, tmps.getD q undef]) w := by
  have hp' : tmps[p]?.getD undef = .pointer (some ⟨b, 0, none⟩) := by simpa using hp
  simp [results, h, hp', asAddr, run_loadVar_mid w b 0 t vs d hb.cells ht hd hi]
theorem new_r (room : Int) (w : World) (ok : Nat → Prop) : Calls Tryd.prog 64 #[rv room] w fun e w' => e = .returned (dV (newD room) (.slice none 0 0) (.slice none 0 0) (.slice none 0 0)) ∧ RDk w' ok (.slice none 0 0) (.slice none 0 0) (.slice none 0 0) (newD room) ∧ Grows w w' := by
  go_enter Tryd.func64, Tryd.ntmps64
  go_wp2_with fail
  have hb := Has.new w 89 [rv room, .slice none 0 0, .slice none 0 0, .slice none 0 0, rv (-1)]
  refine bodyPost_ret (res_has (vs := [rv room, .slice none 0 0, .slice none 0 0, .slice none 0 0, rv (-1)]) rfl _ rfl Tryd.underlying89 rfl d_size hb) rfl ?_
  exact ⟨rfl, ⟨FsV.nil _ _, FsV.nil _ _, CsV.nil _ _⟩, grows_alloc _ _⟩
theorem two_b (w : World) (A B : List Value) (ta tb : TypeId) (w2 : World) (h : w2 = (w.alloc (.cells A.toArray ta)).alloc (.cells B.toArray tb)) :
    Has w2 w.heap.size A ∧ Has w2 (w.heap.size + 1) B ∧ Grows w w2 ∧ w2.heap.size = w.heap.size + 2 := by
  subst h
  have h1 := Has.new w ta A
  have h2 := Has.new (w.alloc (.cells A.toArray ta)) tb B
  rw [World.size_alloc] at h2
  exact ⟨h1.later (grows_alloc _ _), h2, Grows.trans (grows_alloc _ _) (grows_alloc _ _), by simp⟩
abbrev zeroD : List Value := [rv 0, .slice none 0 0, .slice none 0 0, .slice none 0 0, rv 0]
def dL (D : Dk) (sv lv wv : Value) : List Value := [rv D.room, sv, lv, wv, rv D.power]
theorem dL_one {w : World} {ok : Nat → Prop} {sv lv wv : Value} {D : Dk} (h : RDk w ok sv lv wv D) : ∀ u ∈ dL D sv lv wv, u.oneCell' = true := by
  obtain ⟨A1, c1, e1⟩ := h.seen.form
  obtain ⟨A2, c2, e2⟩ := h.lasts.form
  obtain ⟨A3, c3, e3⟩ := h.waits.form
  subst e1 e2 e3
  intro u hu
  simp [dL] at hu
  rcases hu with rfl | rfl | rfl | rfl | rfl <;> rfl
theorem wr_arith (us u0 yl dl : Nat) (room : Int) (h : us = u0 + yl) (hu : us + dl ≤ 1000000000) (hr : 0 ≤ room ∧ room ≤ 1048576) :
    wrap64 ((us : Int) + (dl : Int)) = (us : Int) + (dl : Int) ∧ wrap64 ((us : Int) + (dl : Int) - (yl : Int)) = (us : Int) + (dl : Int) - (yl : Int) ∧ (room < (us : Int) - (yl : Int) + (dl : Int) → decide ((us : Int) + (dl : Int) - (yl : Int) > room) = true) ∧ (¬ room < (us : Int) - (yl : Int) + (dl : Int) → decide ((us : Int) + (dl : Int) - (yl : Int) > room) = false) := by
  refine ⟨by unfold wrap64; omega, by unfold wrap64; omega, fun e => by simp; omega, fun e => by simp; omega⟩
end Go.Proofs.YtbcldknecdbemaaDoor
