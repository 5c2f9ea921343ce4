/-
  Contracts, joined (FrD FrE StA StB Oru StC DkL RkA RkB RkC RkD RkE StD DkO).
-/
import Derived.Test.YtbcldknecdbemaaDoorP8
import Derived.Test.YtbcldknecdbemaaDoorP3
import Derived.Test.YtbcldknecdbemaaDoorP4
import Derived.Test.YtbcldknecdbemaaDoorP5
import Derived.Test.YtbcldknecdbemaaDoorP6
import Derived.Test.YtbcldknecdbemaaDoorP2
import Derived.Lib.SlBytesConst
import Derived.Lib.SmallJoins
import Derived.Deep.QuietTactic
import Derived.BigQuiet

/-
  A region that draws its order and may give up at its end (of no program); contracts of what frame's Open attempts.
-/
namespace Go.Proofs.YtbcldknecdbemaaDoor
open Go.RowKit
set_option linter.unusedVariables false
set_option maxRecDepth 20000

theorem wp_region_ordP {P : Program} {Q : Exit → Act → World → Prop} {id : Nat} {a : Act} {w : World} {l : List Oper} (n : Nat) (s : List (Nat × Bool)) (hm : P.follows .mixedOrders = true) (hB : ordWholeB l.toArray n s = true)
    (hQ : ∀ c a d v w, Q (.panic c) (Act.put a d v) w → Q (.panic c) a w)
    (h : wpOrd P l.toArray Q (fun a' u => wpList P l.toArray Q (l.drop n) a' u) s a w.drew) : (Code.region id l.toArray true).wp P Q a w := by
  simp only [ordWholeB, Bool.and_eq_true, decide_eq_true_eq, Bool.or_eq_true, beq_iff_eq] at hB
  obtain ⟨⟨⟨⟨hsel, hn⟩, hc⟩, hl⟩, hord⟩ := hB
  have hdl : (l.drop n).length = l.toArray.size - n := by simp
  have inv0 : HeadInv .any l.toArray n (Array.replicate l.toArray.size false) :=
    ⟨by simp, fun j oj _ hl => (by rw [getD_replicate_false] at hl; cases hl), fun t _ ht => getD_in (by simpa using ht) (getD_replicate_false _ _)⟩
  have hwait : ∀ i, i < n → ∀ listed, HeadInv .any l.toArray n listed → listed.getD i true = false → ∀ j ∈ Region.ready .any l.toArray listed, j < n := fun i hi listed inv hun j hj => by
    rcases hc with hc | ⟨hs, hch⟩
    · obtain ⟨_, oj, hoj, _⟩ := mem_ready.1 hj
      have := (Array.getElem?_eq_some_iff.1 hoj).1
      omega
    · rcases Nat.lt_or_ge j n with h | h
      · exact h
      · have hjs : j < l.toArray.size := by
          obtain ⟨_, oj, hoj, _⟩ := mem_ready.1 hj
          exact (Array.getElem?_eq_some_iff.1 hoj).1
        exact absurd hj (tail_waits hs hch (by omega) inv _ i rfl hi hun j h)
  refine wp_region_any hm ?_
  have H := wpAnyU_of_ord (md := .any) (g := l.toArray.size - n) (Q := Q) hsel hQ hwait s _ a w.drew inv0 hord h
  have := wpAny_of_U (Q := Q) (g := l.toArray.size - n) (fun listed a' w' hL => by
    have := wpAny_of_seq (md := .any) (Q' := Q) (l.drop n) n listed a' w' (fun j => by simp [List.getElem?_drop]) (by rw [hdl]; exact hL.1) (hL.2 w' (Grows.refl _))
    rwa [hdl] at this) _ _ _ _ H
  rw [hl, show n + (l.toArray.size - n) = l.toArray.size by omega] at this
  exact this

/-- What is attempted: the bytes, or that it is given up with an error. -/
def OOut (r : List UInt8 × Nat) (w : World) (e : Ending) (w' : World) : Prop :=
  (r.2 = 0 ∧ ∃ v, e = .returned v ∧ w'.ownsRow w.heap.size 5 1 v r.1.length (r.1.map bv) ∧ Grows w w') ∨ (r.2 ≠ 0 ∧ r.1 = [] ∧ e = .panicked (why r.2) ∧ Grows w w')

set_option maxRecDepth 20000 in
set_option maxHeartbeats 4000000 in
theorem open1_any (b0 b1 : Nat) (A : Option Addr) (n c : Nat) (f : List UInt8) (most : Int) (w : World) (h0 : Has w b0 [.slice A n c]) (h1 : Has w b1 [.int .i64 most]) (hl : f.length = n) (hr : Lies w w.heap.size A (f.map bv)) (hc : n ≤ c) (hn : n ≤ 1000000000) :
    Calls Tryd.prog 104 #[.pointer (some ⟨b0, 0, none⟩), .pointer (some ⟨b1, 0, none⟩)] w fun e w' => OOut (openOf f most) w e w' := by
  obtain ⟨td, htd, htr⟩ := Option.map_eq_some_iff.1 parts_desc
  have l0 := h0.cell (k := 0) rfl
  go_enter Tryd.func104, Tryd.ntmps104
  go_wp2_with fail
  refine (split_any A n c f w hl hr hc hn).mono ?_
  rintro e w1 (⟨HF, A', c', rfl, hc', hL', hg1⟩ | ⟨HF, rfl, hg1⟩)
  · have HO : Hid (openOf f most = if most < (toldN f : Int) then ([], 3) else sumOf (sumN f) (wereOf (pkB f) (toldN f) (keptL f))) := by show _ = _; unfold openOf; rw [if_neg (by rw [HF]; exact Bool.noConfusion)]
    have HKL : Hid ((keptL f).length = f.length - 10) := by show _ = _; unfold keptL; rw [List.length_take, List.length_drop]; omega
    have hmn : f.length - 10 ≤ 1000000000 := by omega
    have hS := sumN_lt f
    have hX := toldN_lt f
    clear HF hr hc l0 hl hn h0
    generalize f.length - 10 = m at *
    generalize toldN f = x at *
    generalize sumN f = s at *
    generalize pkB f = pk at *
    generalize keptL f = kl at *
    have hb2 := Has.new w1 154 [.bool false, .int .i64 0, .slice none 0 0, .int .u32 0]
    have hg2 := grows_alloc w1 (.cells #[.bool false, .int .i64 0, .slice none 0 0, .int .u32 0] 154)
    have l1 := (h1.later hg1).cell (k := 0) rfl
    have hwp : Below w.heap.size w w1 := hg1
    by_cases hx : most < (x : Int)
    · have hq : decide ((x : Int) ≤ most) = false := by simp; omega
      have HO3 : Hid (openOf f most = ([], 3)) := by show _ = _; rw [HO.out, if_pos hx]
      go_wp2_with (refine wpList_storev rfl 154 (.tmp 3) (.tmp 6) rfl w1.heap.size [.bool false, .int .i64 0, .slice none 0 0, .int .u32 0] [.bool pk, iv x, .slice A' m c', uv s] 4 rfl rfl hb2 rfl rfl parts_size (by simp [Value.oneCell']) ?_; intro w3 hb3 hbel3; have hg3 := hbel3 w1.heap.size w1 (Nat.le_refl _) hg2; have q1 := hb3.cell (k := 1) rfl; have l3 := hcell_later l1 hg3)
      refine (must_no 3 _).mono ?_
      rintro e w' ⟨rfl, rfl⟩
      exact ⟨rfl, .inr (by rw [HO3.out]; exact ⟨by decide, rfl, rfl, Grows.trans hg1 hg3⟩)⟩
    · have hq : (x : Int) ≤ most := by omega
      have HO4 : Hid (openOf f most = sumOf s (wereOf pk x kl)) := by show _ = _; rw [HO.out, if_neg hx]
      clear HO
      go_wp2_with (refine wpList_storev rfl 154 (.tmp 3) (.tmp 6) rfl w1.heap.size [.bool false, .int .i64 0, .slice none 0 0, .int .u32 0] [.bool pk, iv x, .slice A' m c', uv s] 4 rfl rfl hb2 rfl rfl parts_size (by simp [Value.oneCell']) ?_; intro w3 hb3 hbel3; have hg3 := hbel3 w1.heap.size w1 (Nat.le_refl _) hg2; have q1 := hb3.cell (k := 1) rfl; have l3 := hcell_later l1 hg3)
      refine (must_yes 3 _).mono ?_
      rintro e w' ⟨rfl, rfl⟩
      have hL3 := ((hL'.mono hg1.size).later hg3)
      have hg03 := Grows.trans hg1 hg3
      go_wp2_with (refine wpList_loads rfl 154 (.tmp 3) rfl _ rfl _ (hb3.load htd htr parts_size) ?_)
      refine (were_any pk A' m c' kl x s w3 HKL.out hL3 hc' hmn hX).mono ?_
      rintro e w4 (⟨b, v, HW, rfl, hown, hg4⟩ | ⟨HW, rfl, hg4⟩)
      · have HO5 : Hid (openOf f most = if crcOf b = s then (b, 0) else ([], 7)) := by show _ = _; rw [HO4.out, HW]; rfl
        have hbl : b.length ≤ 4294967296 := by
          have hw := HW
          unfold wereOf at hw
          split at hw
          · split at hw
            · rename_i h; injection hw with hw; rw [← hw, h.2]; omega
            · cases hw
          · split at hw
            · rename_i h; injection hw with hw; rw [← hw, h]; omega
            · cases hw
        have hg04 := Grows.trans hg03 hg4
        have q3 := hcell_later (hb3.cell (k := 3) rfl) hg4
        have hC := crcOf_lt b
        have hownF := own_base hown hg03.size
        have HOWN := Lib.hid hownF
        obtain ⟨A4, c4, rfl, hc4⟩ := own_form hown
        have hL4 := Lies.of_own hown
        have HB : Hid (b.length = b.length) := rfl
        clear hown hownF HO4 HW hL3 q1 l3 hb3 hbel3 hg3 hg1 hL' hb2 hg2 l1 h1
        obtain ⟨bl, hbl2⟩ : ∃ bl, b.length = bl := ⟨_, rfl⟩
        simp only [hbl2] at hbl HOWN hc4
        have HBL := Lib.hid hbl2
        rw [hbl2]
        clear hbl2 HB
        obtain ⟨cs, hcs⟩ : ∃ cs, crcOf b = cs := ⟨_, rfl⟩
        have HCS := Lib.hid hcs
        rw [hcs] at hC
        clear hcs
        go_wp2_with fail
        refine wp_region_ordP 5 [(0, true), (1, true), (2, true), (3, true), (4, true)] (by kernel_rfl) (by kernel_rfl) (by intro c a d v w h; cases d <;> exact h) ?_
        have hgd : Grows w4 w4.drew := (Grows.refl w4).drew
        have hL4 := Lib.hid (hL4.later hgd)
        have q3 := hcell_later q3 hgd
        have HGD := Lib.hid hgd
        have hO := Grows.refl w4.drew
        clear hgd
        generalize w4.drew = wd at *
        have ld1 : ∀ u, Grows wd u → u.cell? ⟨w1.heap.size, 3, none⟩ = some (uv s) := fun u h => hcell_later q3 h
        repeat (first | (refine ord_take hO _ ?_ (by simp only [List.getElem?_cons_succ, List.getElem?_cons_zero]; rfl) (by rfl) ?_ ?_; rotate_left; (· (intro u hu0 hu; (try go_simp); (try with_reducible rfl))); try simp only [Act.put, List.setIfInBounds_toArray, List.set_cons_zero, List.set_cons_succ]) | (refine ord_skip _ (by simp only [List.getElem?_cons_succ, List.getElem?_cons_zero]; rfl) (by rfl) ?_; try simp only [Act.put, List.setIfInBounds_toArray, List.set_cons_zero, List.set_cons_succ]) | (refine ord_call hO _ ?_ (by simp only [List.getElem?_cons_succ, List.getElem?_cons_zero]; rfl) (by rfl) ?_ ?_; rotate_left; (· (intro u hu0 hu; go_simp; (try refine quiet_enter ?_); (exact sum_g _ _ _ HCS _ HBL.out (hL4.out.later hu0) (by omega)))); try simp only [Act.put, List.setIfInBounds_toArray, List.set_cons_zero, List.set_cons_succ]))
        clear hO ld1 q3
        (refine ord_done (fun u hu => ?_); simp only [List.drop_succ_cons, List.drop_zero])
        have hgu := Grows.trans HGD.out hu
        have HOWN := Lib.hid (own_later HOWN.out hgu)
        have hgF := Grows.trans hg04 hgu
        clear hu HGD hgu hg04 hg03 hg4 hL4 hwp
        by_cases hcs2 : cs = s
        · subst hcs2
          have HO6 : Hid (openOf f most = (b, 0)) := by show _ = _; rw [HO5.out, if_pos HCS.out]
          go_wp2_with fail
          refine (must_yes 7 _).mono ?_
          rintro e w' ⟨rfl, rfl⟩
          go_wp2_with fail
          go_ret
          exact .inl (by rw [HO6.out]; exact ⟨rfl, _, rfl, (by show World.ownsRow _ _ _ _ _ b.length _; rw [HBL.out]; exact HOWN.out), hgF⟩)
        · have hq2 : ((cs : Int) == (s : Int)) = false := by simp; omega
          have HO6 : Hid (openOf f most = ([], 7)) := by show _ = _; rw [HO5.out, if_neg (by rw [HCS.out]; exact hcs2)]
          go_wp2_with fail
          refine (must_no 7 _).mono ?_
          rintro e w' ⟨rfl, rfl⟩
          exact ⟨rfl, .inr (by rw [HO6.out]; exact ⟨by decide, rfl, rfl, hgF⟩)⟩
      · have HO5 : Hid (openOf f most = ([], 2)) := by show _ = _; rw [HO4.out, HW]; rfl
        exact ⟨rfl, .inr (by rw [HO5.out]; exact ⟨by decide, rfl, rfl, Grows.trans hg03 hg4⟩)⟩
  · have HO : Hid (openOf f most = ([], 2)) := by show _ = _; unfold openOf; rw [if_pos HF]
    exact ⟨rfl, .inr (by rw [HO.out]; exact ⟨by decide, rfl, rfl, hg1⟩)⟩
end Go.Proofs.YtbcldknecdbemaaDoor

/-
  Contracts of frame's attempt (of bytes) and Open.
-/
namespace Go.Proofs.YtbcldknecdbemaaDoor
open Go.RowKit
set_option linter.unusedVariables false
set_option maxRecDepth 20000

theorem Lies.own_set {w : World} {base : Nat} {e : TypeId} {A : Option Addr} {n c : Nat} {vs : List Value} {p : Addr} {x : Value} (h : w.ownsRow base e 1 (.slice A n c) n vs) (hp : p.block < base) : Lies (w.setCell p x) (w.setCell p x).heap.size A vs := fun j u hu => by
  obtain ⟨ad, rfl, hb, hc⟩ := Lies.of_own h j u hu
  have hge := (h.lt ad.block rfl).1
  refine ⟨ad, rfl, by rw [World.size_setCell]; exact hb, ?_⟩
  rw [World.cell?_setCell_other w _ _ _ (by intro e; have := congrArg Addr.block e; rw [add_block] at this; omega)]
  exact hc

theorem attempt_any (p0 p1 : Value) (r : List UInt8 × Nat) (w : World) (h : ∀ u, Grows w u → Calls Tryd.prog 104 #[p0, p1] u fun e w' => OOut r u e w') :
    Calls Tryd.prog 103 #[.func (.func 104) #[] #[p0, p1]] w fun e w' => ∃ A c', e = .returned (.tuple #[.slice A r.1.length c', iv r.2]) ∧ r.1.length ≤ c' ∧ Lies w' w'.heap.size A (r.1.map bv) ∧ Grows w w' := by
  have hmf : ∀ (fn : Fn) (first cap : Array Value) (w : World), (Instr.makeFunc fn first cap).run Tryd.prog w = .ok (.func fn first cap) w := fun _ _ _ _ => rfl
  have hg0 := grows_alloc w (.cells #[.int .i64 0] 38)
  have hb0 := Has.new w 38 [.int .i64 0]
  have HC := Lib.hid (h _ hg0)
  go_enter_defers Tryd.func103, Tryd.ntmps103
  go_wp2_with fail
  refine HC.out.mono ?_
  rintro e w1 (⟨h0, v, rfl, hown, hg1⟩ | ⟨hne, hnil, rfl, hg1⟩)
  · have hb1 := hb0.later hg1
    have q0 := hb1.cell (k := 0) rfl
    have qf := hb1.free 0
    obtain ⟨A, c', rfl, hc'⟩ := own_form hown
    have hLs := Lies.own_set (p := ⟨w.heap.size, 0, none⟩) (x := .int .i64 0) hown (by rw [World.size_alloc]; show w.heap.size < _; omega)
    have hgs : Below w.heap.size w (w1.setCell ⟨w.heap.size, 0, none⟩ (.int .i64 0)) := Below.setCell (Grows.trans hg0 hg1) (p := ⟨w.heap.size, 0, none⟩) (Nat.le_refl _) _
    go_wp2
    refine leaves_cons (f := 132) (args := #[.pointer (some ⟨w.heap.size, 0, none⟩)]) (by simp) (by simp [go_sem]) ?_
    refine (catch_idle ⟨w.heap.size, 0, none⟩ _).mono ?_
    rintro e u' w'' ⟨rfl, rfl, rfl⟩
    have q1 : (w1.setCell ⟨w.heap.size, 0, none⟩ (.int .i64 0)).cell? ⟨w.heap.size, 0, none⟩ = some (.int .i64 0) := World.cell?_setCell_same w1 _ _ q0
    simp [Leaves, settle, results, Tryd.results103, go_sem, q1]
    exact ⟨A, c', ⟨⟨rfl, rfl⟩, by rw [h0]; rfl⟩, hc', by simpa using hLs, hgs⟩
  · have hb1 := hb0.later hg1
    have q0 := hb1.cell (k := 0) rfl
    have qf := hb1.free 0
    have hgs : Below w.heap.size w (w1.setCell ⟨w.heap.size, 0, none⟩ (iv r.2)) := Below.setCell (Grows.trans hg0 hg1) (p := ⟨w.heap.size, 0, none⟩) (Nat.le_refl _) _
    refine leaves_cons (f := 132) (args := #[.pointer (some ⟨w.heap.size, 0, none⟩)]) (by simp) (by simp [go_sem]) ?_
    refine (catch_panicking ⟨w.heap.size, 0, none⟩ 0 r.2 [] _ q0 qf).mono ?_
    rintro e u' w'' ⟨rfl, rfl, rfl⟩
    have q1 : (w1.setCell ⟨w.heap.size, 0, none⟩ (iv r.2)).cell? ⟨w.heap.size, 0, none⟩ = some (iv r.2) := World.cell?_setCell_same w1 _ _ q0
    simp [Leaves, settle, results, Tryd.results103, go_sem, q1]
    rw [hnil]
    exact ⟨none, 0, ⟨rfl, rfl, rfl⟩, Nat.le_refl _, Lies.empty, hgs⟩

theorem open_any (A : Option Addr) (n c : Nat) (f : List UInt8) (most : Int) (w : World) (hl : f.length = n) (hr : Lies w w.heap.size A (f.map bv)) (hc : n ≤ c) (hn : n ≤ 1000000000) :
    Calls Tryd.prog 75 #[.slice A n c, .int .i64 most] w fun e w' => ∃ (l : List UInt8) (er ln c' : Nat) (A' : Option Addr), Hid (openOf f most = (l, er)) ∧ Hid (l.length = ln) ∧ e = .returned (.tuple #[.slice A' ln c', iv er]) ∧ ln ≤ c' ∧ Lies w' w'.heap.size A' (l.map bv) ∧ Grows w w' := by
  have hmf : ∀ (fn : Fn) (first cap : Array Value) (w : World), (Instr.makeFunc fn first cap).run Tryd.prog w = .ok (.func fn first cap) w := fun _ _ _ _ => rfl
  have hga := grows_alloc w (.cells #[.slice A n c] 22)
  have hba := Has.new w 22 [.slice A n c]
  have hgb := grows_alloc (w.alloc (.cells #[.slice A n c] 22)) (.cells #[.int .i64 most] 3)
  have hbb := Has.new (w.alloc (.cells #[.slice A n c] 22)) 3 [.int .i64 most]
  have hba2 := hba.later hgb
  have hg2 := Grows.trans hga hgb
  have hr2 := hr.later hg2
  have hsz : (w.alloc (.cells #[.slice A n c] 22)).heap.size = w.heap.size + 1 := World.size_alloc _ _
  rw [hsz] at hbb
  have AT := attempt_any (.pointer (some ⟨w.heap.size, 0, none⟩)) (.pointer (some ⟨w.heap.size + 1, 0, none⟩)) (openOf f most) _ (fun u hu => open1_any w.heap.size (w.heap.size + 1) A n c f most u (hba2.later hu) (hbb.later hu) hl (hr2.later hu) hc hn)
  have HAT := Lib.hid AT
  clear AT
  go_enter Tryd.func75, Tryd.ntmps75
  go_wp2_with fail
  refine HAT.out.mono ?_
  rintro e w1 ⟨A', c', rfl, hc', hL', hg1⟩
  obtain ⟨l, er, ho⟩ : ∃ l er, openOf f most = (l, er) := ⟨_, _, rfl⟩
  simp only [ho] at hc' hL' ⊢
  have HO := Lib.hid ho
  clear ho HAT
  go_wp2_with fail
  go_ret2
  exact ⟨l, er, _, c', A', HO, rfl, rfl, hc', hL', Grows.trans hg2 hg1⟩
end Go.Proofs.YtbcldknecdbemaaDoor

/-
  store: done, inTurn (whatever is handed to it), Place.
-/
namespace Go.Proofs.YtbcldknecdbemaaDoor
open Go.RowKit
set_option linter.unusedVariables false
set_option maxRecDepth 20000

theorem Keys.turned {w w' : World} {S : Nat → Prop} (h : Keys w) (ht : Turns S w w') (hS : ¬ S 0) : Keys w' := fun j u hu => ht.cell (h j u hu) hS
theorem cat_text (l r : Byts) : (⟨l.toArray⟩ : ByteArray) ++ ⟨r.toArray⟩ = ⟨(l ++ r).toArray⟩ := by
  apply ByteArray.ext
  simp
theorem done_any (z : Int) (w : World) : Calls Tryd.prog 73 #[rv z] w fun e w' => e = .returned (.bool (decide (z = 0))) ∧ w' = w := by
  by_cases h : z = 0
  · subst h
    go_enter Tryd.func73, Tryd.ntmps73
    go_wp2_with fail
    refine (is_true 0 w).mono ?_
    rintro e w' ⟨rfl, rfl⟩
    go_wp2_with fail
    go_ret
    exact ⟨rfl, rfl⟩
  · have hd : decide (z = 0) = false := by simpa using h
    rw [hd]
    have H := Lib.hid (is_false z 0 w h)
    clear hd
    go_enter Tryd.func73, Tryd.ntmps73
    go_wp2_with fail
    refine H.out.mono ?_
    rintro e w' ⟨rfl, rfl⟩
    go_wp2_with fail
    go_ret
    exact ⟨rfl, rfl⟩

set_option maxHeartbeats 1000000 in
theorem inturn_any (n : Nat) (A : Option Addr) (c : Nat) (q : Nat → FuncId) (fi ca : Nat → Array Value)
    (hq : ∀ i, i < n → ∀ w, (callFunc (q i) (fi i ++ ca i)).run Tryd.prog w = .ok (.enter (q i) (fi i ++ ca i)) w)
    (J : Nat → World → Prop) (R : Int → World → Prop)
    (hc : ∀ i, i < n → ∀ w, J i w → ∃ ad, A = some ad ∧ w.cell? (ad.add i) = some (.func (.func (q i)) (fi i) (ca i)))
    (hs : ∀ i, i < n → ∀ w, J i w → Calls Tryd.prog (q i) (fi i ++ ca i) w fun e w' => ∃ er : Int, e = .returned (rv er) ∧ (er = 0 → J (i + 1) w') ∧ (er ≠ 0 → R er w'))
    (w : World) (hn : n ≤ 1000000) (h0 : J 0 w) :
    Calls Tryd.prog 66 #[.slice A n c] w fun e w' => ∃ er : Int, e = .returned (rv er) ∧ (er = 0 → J n w') ∧ (er ≠ 0 → R er w') := by
  go_enter Tryd.func66, Tryd.ntmps66
  go_wp2_with fail
  go_loopw [8] (fun i wr => ∃ k : Nat, k ≤ n ∧ i = .int .i64 (k : Int) ∧ J k wr) (fun i _ => n - (intOf i).toNat)
  case atStart => exact ⟨0, Nat.zero_le _, rfl, h0⟩
  case round =>
    obtain ⟨k, hk, rfl, hj⟩ := hrel
    by_cases hlt : k < n
    · obtain ⟨ad, rfl, hcell⟩ := hc k hlt wr hj
      have Q := hq k hlt
      have S := hs k hlt wr hj
      generalize q k = f at *
      generalize hx : fi k = x at *
      generalize hy : ca k = y at *
      have hki : (k : Int) < (n : Int) := by omega
      clear hc hs hq
      go_wp2_with fail
      refine S.mono ?_
      rintro e w2 ⟨er, rfl, h1, h2⟩
      go_wp2_with fail
      refine (done_any er w2).mono ?_
      rintro e w2 ⟨rfl, rfl⟩
      by_cases he : er = 0
      · subst he
        have hd : decide ((0 : Int) = 0) = true := rfl
        go_wp2_with fail
        go_roundw
        case rel => exact ⟨k + 1, by omega, by go_num, h1 trivial⟩
        case measure => simp [intOf]; omega
      · have hd : decide (er = 0) = false := by simpa using he
        go_wp2_with fail
        go_ret
        exact ⟨er, rfl, fun h => absurd h he, h2⟩
    · obtain rfl : k = n := by omega
      go_wp2_with fail
      go_ret
      exact ⟨0, rfl, fun _ => hj, fun h => absurd rfl h⟩

set_option maxHeartbeats 400000 in
theorem place_any (l : Byts) (w : World) (hl : l.length = 32) :
    Calls Tryd.prog 20 #[dv l] w fun e w' => e = .returned (tv (placeB l)) ∧ Grows w w' := by
  have hbox := Box.new w 26 l
  have hg : Grows w (w.alloc (.cells (l.map bv).toArray 26)) := grows_alloc _ _
  have hld := hbox.load Tryd.underlying26 Hx.dig_size hl
  have NM := fun u => Hx.name_any l u hl
  have hx := hex_len hl
  have hp : placeB l = [99, 47] ++ (Hx.hexOf l).take 2 ++ [47] ++ Hx.hexOf l := rfl
  rw [hp]
  generalize Hx.hexOf l = x at *
  have hsz : (⟨x.toArray⟩ : ByteArray).size = 64 := by show x.toArray.size = 64; simpa using hx
  have hex := Hx.extract_take x 2
  have e1 := cat_text [99, 47] (x.take 2)
  have e2 := cat_text ([99, 47] ++ x.take 2) [47]
  have e3 := cat_text ([99, 47] ++ x.take 2 ++ [47]) x
  have HL := Lib.hid hl
  clear hl hp hx
  go_enter Tryd.func20, Tryd.ntmps20
  go_wp2_with (with_reducible refine wpList_loads rfl 26 (.tmp 1) rfl _ rfl _ hld ?_)
  refine (NM _).mono ?_
  rintro e w1 ⟨rfl, hb⟩
  go_wp2_with fail
  go_ret
  exact ⟨rfl, Grows.trans hg hb⟩
end Go.Proofs.YtbcldknecdbemaaDoor

/-
  store: Get, Has.
-/
namespace Go.Proofs.YtbcldknecdbemaaDoor
open Go.RowKit
set_option linter.unusedVariables false
set_option maxRecDepth 20000

theorem were_len {pk : Bool} {k : Nat} {l b : Byts} (h : wereOf pk k l = some b) : b.length = k := by
  unfold wereOf at h
  split at h
  · split at h
    · rename_i h1
      injection h with h
      rw [← h]; exact h1.2
    · cases h
  · split at h
    · rename_i h1
      injection h with h
      rw [← h]; exact h1
    · cases h
theorem open_le (f : Byts) (m : Nat) : (openOf f m).1.length ≤ m := by
  unfold openOf
  split
  · exact Nat.zero_le _
  · split
    · exact Nat.zero_le _
    · unfold sumOf
      split
      · exact Nat.zero_le _
      · rename_i b hb
        split
        · have := were_len hb
          show b.length ≤ m
          omega
        · exact Nat.zero_le _
theorem fGet_le {S : Fls} (h : (S.map (·.1)).Nodup) {p b : Byts} (hg : fGet S p = some b) : b.length ≤ fUsed S := by
  have := used_del h p
  rw [hg] at this
  simp at this
  omega
theorem read_le {D : Dk} (h : D.Ok) (p : Byts) : (readD D p).1.length ≤ D.weight := by
  unfold readD
  split
  · exact Nat.zero_le _
  · have hu := h.used
    cases hg : fGet D.seen p with
    | none => exact Nat.zero_le _
    | some b => have := fGet_le h.srt.nodup hg; show b.length ≤ _; omega
theorem Fresh.lies2 {w0 w : World} {v : Value} {l : Byts} (h : Fresh w0 w v l) : ∃ A c, v = .slice A l.length c ∧ l.length ≤ c ∧ c ≤ maxLen ∧ Lies w w.heap.size A (l.map bv) := by
  obtain ⟨A, c, h1, h2⟩ := h.lies
  rcases h with ⟨rfl, rfl⟩ | ⟨g, c', e, hc, hm, _⟩
  · injection h1 with h3 h4 h5
    exact ⟨A, c, by rw [← h3, ← h5]; rfl, Nat.zero_le _, by rw [← h5]; exact Nat.zero_le _, h2⟩
  · rw [h1] at e
    injection e with e1 _ e3
    exact ⟨A, c, h1, by rw [e3]; exact hc, by rw [e3]; exact hm, h2⟩
/-- What Get hands out. -/
def GetOut (D : Dk) (nm : Byts) (w : World) (e : Ending) (w' : World) : Prop :=
  ∃ A c, e = .returned (.tuple #[.slice A (getD D nm).1.length c, rv (getD D nm).2]) ∧ (getD D nm).1.length ≤ c ∧ Lies w' w'.heap.size A ((getD D nm).1.map bv) ∧ Grows w w'
theorem getout_nil {D : Dk} {nm : Byts} {w w' : World} {er : Int} (h : getD D nm = ([], er)) (hg : Grows w w') : GetOut D nm w (.returned (.tuple #[.slice none 0 0, rv er])) w' :=
  ⟨none, 0, by rw [h]; rfl, by rw [h]; exact Nat.le_refl _, by rw [h]; exact Lies.empty, hg⟩
theorem getD_no {D : Dk} {nm f : Byts} {er : Int} (h : readD D (placeB nm) = (f, er)) (he : er ≠ 0) : getD D nm = ([], er) := by
  unfold getD; rw [h, if_pos he]
theorem getD_yes {D : Dk} {nm f l : Byts} {er2 : Nat} (h : readD D (placeB nm) = (f, 0)) (ho : openOf f 4096 = (l, er2)) :
    getD D nm = if er2 = 0 ∧ shaOf l = nm then (l, 0) else ([], 7) := by
  unfold getD; rw [h, if_neg (by simp)]
  simp only [ho]

set_option maxHeartbeats 4000000 in
theorem sget_any (a m : Nat) (X : Nat → Prop) (D : Dk) (w : World) (nm : Byts) (hd : Dsk w a m X D) (hk : Keys w) (hW : D.weight ≤ 100000000) (hl : nm.length = 32) :
    Calls Tryd.prog 46 #[.pointer (some ⟨a, 0, none⟩), dv nm] w fun e w' => GetOut D nm w e w' := by
  have hbox := Box.new w 26 nm
  have hg : Grows w (w.alloc (.cells (nm.map bv).toArray 26)) := grows_alloc _ _
  have hld := hbox.load Tryd.underlying26 Hx.dig_size hl
  have PL := fun u => place_any nm u hl
  have hle := read_le hd.ok (placeB nm)
  have RD := fun u (h : Grows w u) => read_d a m X D u (placeB nm) (hd.later h) hW
  obtain ⟨R, hR⟩ : ∃ R, R = readD D (placeB nm) := ⟨_, rfl⟩
  rw [← hR] at RD hle
  obtain ⟨f, er⟩ := R
  simp only at RD hle
  have HR := Lib.hid hR.symm
  have HL := Lib.hid hl
  clear hR hl
  go_enter Tryd.func46, Tryd.ntmps46
  go_wp2_with (with_reducible refine wpList_loads rfl 26 (.tmp 3) rfl _ rfl _ hld ?_)
  change Calls _ _ _ (w.alloc (.cells (nm.map bv).toArray 26)) _
  generalize w.alloc (.cells (nm.map bv).toArray 26) = w1 at *
  generalize w.heap.size = B at *
  refine (PL w1).mono ?_
  rintro e w2 ⟨rfl, g2⟩
  go_wp2_with fail
  refine (RD w2 (Grows.trans hg g2)).mono ?_
  rintro e w3 ⟨v, rfl, F, g3⟩
  obtain ⟨A3, c3, rfl, hc3, hm3, hL3⟩ := F.lies2
  have G3 := Grows.trans hg (Grows.trans g2 g3)
  clear PL RD hld F
  go_wp2_with fail
  refine (done_any er w3).mono ?_
  rintro e w3 ⟨rfl, rfl⟩
  by_cases he : er = 0
  · subst he
    have hdd : decide ((0 : Int) = 0) = true := rfl
    have OP := open_any A3 f.length c3 f 4096 w3 rfl hL3 hc3 (by omega)
    go_wp2_with fail
    refine OP.mono ?_
    rintro e w4 ⟨l, er2, ln, c4, A4, HO, HLN, rfl, hlc, hL4, g4⟩
    have hb4 := (hbox.later (Grows.trans g2 (Grows.trans g3 g4)))
    have G4 := Grows.trans G3 g4
    have hll : l.length ≤ 4096 := by have := open_le f 4096; rw [show ((4096 : Nat) : Int) = 4096 from rfl, HO.out] at this; exact this
    have gd := (Grows.refl w4).drew
    have DN : Hid (∀ u, Calls Tryd.prog 73 #[rv (er2 : Int)] u fun e w' => e = .returned (.bool (decide ((er2 : Int) = 0))) ∧ Grows u w') := fun u => (done_any er2 u).mono fun e w' ⟨h1, h2⟩ => ⟨h1, by rw [h2]; exact Grows.refl _⟩
    have SM : Hid (∀ u, Grows w4.drew u → Calls Tryd.prog 55 #[.slice A4 ln c4] u fun e w' => e = .returned (dv (shaOf l)) ∧ Grows u w') := fun u h => sum_any A4 ln c4 l u (hk.later (Grows.trans G4 (Grows.trans gd h))) HLN.out (hL4.later (Grows.trans gd h)) (by have := HLN.out; omega)
    have ld : ∀ u, Grows w4.drew u → (Instr.loadAt 26 (.pointer (some ⟨B, 0, none⟩))).run Tryd.prog u = .ok (dv nm) u := fun u h => (hb4.later (Grows.trans gd h)).load Tryd.underlying26 Hx.dig_size HL.out
    have hne := fun u => Hx.neq_dig (shaOf l) nm (shaOf_len l) HL.out u
    have HOK := Lib.hid (shaOf_len l)
    have GY := Lib.hid (getD_yes HR.out HO.out)
    obtain ⟨sm, hsm⟩ : ∃ sm, sm = shaOf l := ⟨_, rfl⟩
    rw [← hsm] at SM hne GY
    clear hsm hdd
    by_cases h2 : er2 = 0
    · subst h2
      have hdd : decide (((0 : Nat) : Int) = 0) = true := rfl
      rw [hdd] at DN
      go_wp2_with fail
      refine wp_region_ord 9 [(0, true), (1, true), (2, true), (3, true), (4, true), (5, true), (6, true), (7, true), (8, true)] (by kernel_rfl) (by kernel_rfl) ?_
      have hO := Grows.refl w4.drew
      repeat (first | (refine ord_load hO _ _ (by simp only [List.getElem?_cons_succ, List.getElem?_cons_zero]; rfl) (by rfl) 26 (.tmp 3) (by rfl) _ (by rfl) ld ?_; try simp only [Act.put, List.setIfInBounds_toArray, List.set_cons_zero, List.set_cons_succ]) | (refine ord_take hO _ ?_ (by simp only [List.getElem?_cons_succ, List.getElem?_cons_zero]; rfl) (by rfl) ?_ ?_; rotate_left; (· (intro u hu0 hu; (try go_simp); (try with_reducible rfl))); try simp only [Act.put, List.setIfInBounds_toArray, List.set_cons_zero, List.set_cons_succ]) | (refine ord_skip _ (by simp only [List.getElem?_cons_succ, List.getElem?_cons_zero]; rfl) (by rfl) ?_; try simp only [Act.put, List.setIfInBounds_toArray, List.set_cons_zero, List.set_cons_succ]) | (refine ord_call hO _ ?_ (by simp only [List.getElem?_cons_succ, List.getElem?_cons_zero]; rfl) (by rfl) ?_ ?_; rotate_left; (· (intro u hu0 hu; go_simp; (try refine quiet_enter ?_); (first | with_reducible exact DN.out u | with_reducible exact SM.out u hu0))); try simp only [Act.put, List.setIfInBounds_toArray, List.set_cons_zero, List.set_cons_succ]))
      refine ord_done (fun w5 hu => ?_)
      simp only [List.drop_succ_cons, List.drop_zero]
      have G5 := Grows.trans G4 (Grows.trans gd hu)
      have hL5 := hL4.later (Grows.trans gd hu)
      clear hO ld hdd
      cases hs : (sm == nm) with
      | true =>
        have hsn : sm = nm := by simpa using hs
        go_wp2_with fail
        refine NoPanic.normal ?_
        go_wp2_with fail
        go_ret2
        have h3 := GY.out
        rw [if_pos ⟨trivial, hsn⟩] at h3
        refine ⟨A4, c4, ?_, ?_, ?_, G5⟩
        · rw [h3, HLN.out]; rfl
        · rw [h3, HLN.out]; exact hlc
        · rw [h3]; exact hL5
      | false =>
        have hsn : sm ≠ nm := by simpa using hs
        go_wp2_with fail
        refine NoPanic.normal ?_
        go_wp2_with fail
        go_ret2
        have h3 := GY.out
        rw [if_neg (fun h => hsn h.2)] at h3
        exact getout_nil h3 G5
    · have hdd : decide ((er2 : Int) = 0) = false := by simp; omega
      rw [hdd] at DN
      go_wp2_with fail
      refine wp_region_ord 9 [(0, true), (1, true), (2, true), (3, true), (4, true), (5, true), (6, true), (7, true), (8, true)] (by kernel_rfl) (by kernel_rfl) ?_
      have hO := Grows.refl w4.drew
      repeat (first | (refine ord_load hO _ _ (by simp only [List.getElem?_cons_succ, List.getElem?_cons_zero]; rfl) (by rfl) 26 (.tmp 3) (by rfl) _ (by rfl) ld ?_; try simp only [Act.put, List.setIfInBounds_toArray, List.set_cons_zero, List.set_cons_succ]) | (refine ord_take hO _ ?_ (by simp only [List.getElem?_cons_succ, List.getElem?_cons_zero]; rfl) (by rfl) ?_ ?_; rotate_left; (· (intro u hu0 hu; (try go_simp); (try with_reducible rfl))); try simp only [Act.put, List.setIfInBounds_toArray, List.set_cons_zero, List.set_cons_succ]) | (refine ord_skip _ (by simp only [List.getElem?_cons_succ, List.getElem?_cons_zero]; rfl) (by rfl) ?_; try simp only [Act.put, List.setIfInBounds_toArray, List.set_cons_zero, List.set_cons_succ]) | (refine ord_call hO _ ?_ (by simp only [List.getElem?_cons_succ, List.getElem?_cons_zero]; rfl) (by rfl) ?_ ?_; rotate_left; (· (intro u hu0 hu; go_simp; (try refine quiet_enter ?_); (first | with_reducible exact DN.out u | with_reducible exact SM.out u hu0))); try simp only [Act.put, List.setIfInBounds_toArray, List.set_cons_zero, List.set_cons_succ]))
      refine ord_done (fun w5 hu => ?_)
      simp only [List.drop_succ_cons, List.drop_zero]
      have G5 := Grows.trans G4 (Grows.trans gd hu)
      clear hO ld hdd
      go_wp2_with fail
      refine NoPanic.normal ?_
      go_wp2_with fail
      go_ret2
      have h3 := GY.out
      rw [if_neg (fun h => h2 h.1)] at h3
      exact getout_nil h3 G5
  · have hdd : decide (er = 0) = false := by simpa using he
    go_wp2_with fail
    go_ret2
    exact getout_nil (getD_no HR.out he) G3

set_option maxHeartbeats 1000000 in
theorem shas_any (a m : Nat) (X : Nat → Prop) (D : Dk) (w : World) (nm : Byts) (hd : Dsk w a m X D) (hk : Keys w) (hW : D.weight ≤ 100000000) (hl : nm.length = 32) :
    Calls Tryd.prog 65 #[.pointer (some ⟨a, 0, none⟩), dv nm] w fun e w' => e = .returned (.bool (decide ((getD D nm).2 = 0))) ∧ Grows w w' := by
  have hbox := Box.new w 26 nm
  have hg : Grows w (w.alloc (.cells (nm.map bv).toArray 26)) := grows_alloc _ _
  have hld := hbox.load Tryd.underlying26 Hx.dig_size hl
  have GT := fun u (h : Grows w u) => sget_any a m X D u nm (hd.later h) (hk.later h) hW hl
  unfold GetOut at GT
  generalize getD D nm = R at *
  obtain ⟨b, er⟩ := R
  simp only at GT
  have HL := Lib.hid hl
  clear hl
  go_enter Tryd.func65, Tryd.ntmps65
  go_wp2_with (with_reducible refine wpList_loads rfl 26 (.tmp 3) rfl _ rfl _ hld ?_)
  refine (GT _ hg).mono ?_
  rintro e w2 ⟨A, c, rfl, _, _, g2⟩
  go_wp2_with fail
  refine (done_any er w2).mono ?_
  rintro e w2 ⟨rfl, rfl⟩
  go_wp2_with fail
  go_ret
  exact ⟨rfl, Grows.trans hg g2⟩
end Go.Proofs.YtbcldknecdbemaaDoor

/-
  As Ord, for a region in which an operation that comes alone may turn blocks of S (a call that writes a block, an append to a row); what is taken ahead of it reads none of them. (Of no program.)
-/
namespace Go.Proofs.YtbcldknecdbemaaDoor
open Go.RowKit
set_option linter.unusedVariables false
set_option maxRecDepth 20000
section
variable {P : Program} {ops : Array Oper} {Q : Exit → Act → World → Prop} {md : Region.Mode} {S : Nat → Prop}

/-- In every world that has grown from w the operation yields v, and the world but grows. -/
def YieldsC (S : Nat → Prop) (P : Program) (ops : Array Oper) (w : World) (o : Oper) (v : Value) (a : Act) : Prop :=
  (Region.wanted o (yielded ops a.tmps) = true ∧ ∀ u, Turns S w u → Oper.quietAt P o a (Grows u) u v) ∨ (Region.wanted o (yielded ops a.tmps) = false ∧ v = undef)

theorem YieldsC.same {w : World} {o : Oper} {v : Value} {a a' : Act} (hy : YieldsC S P ops w o v a) (he : execOp a'.eval o = execOp a.eval o)
    (hw : Region.wanted o (yielded ops a'.tmps) = Region.wanted o (yielded ops a.tmps)) : YieldsC S P ops w o v a' := by
  unfold YieldsC Oper.quietAt at *
  rw [he, hw]
  exact hy
theorem YieldsC.later {w w' : World} {o : Oper} {v : Value} {a : Act} (hy : YieldsC S P ops w o v a) (h : Turns S w w') : YieldsC S P ops w' o v a :=
  hy.imp (fun ⟨h1, h2⟩ => ⟨h1, fun u hu => h2 u (Turns.trans h hu)⟩) id

theorem YieldsC.wpOp {w : World} {i : Nat} {o : Oper} {v : Value} {a : Act} (hi : ops[i]? = some o) (hy : YieldsC S P ops w o v a) {K : Act → World → Prop} {u : World} (hu : Turns S w u)
    (h : ∀ u', Grows u u' → K (a.put o.dst v) u') : wpOp P ops Q i K a u := by
  unfold Go.wpOp
  simp only [hi]
  rcases hy with ⟨hw, hv⟩ | ⟨hw, rfl⟩
  · rw [if_pos hw]
    refine .inl ?_
    have h1 := hv u hu
    unfold Oper.quietAt at h1
    unfold Oper.wp
    generalize (execOp a.eval o).run P u = r at *
    match r, h1 with
    | .ok (.value x) w', h1 => obtain ⟨rfl, rfl⟩ := h1; exact h _ (Grows.refl _)
    | .ok .skip w', h1 => obtain ⟨rfl, rfl⟩ := h1; exact h _ (Grows.refl _)
    | .ok (.enter f args) w', h1 =>
      obtain ⟨rfl, hc⟩ := h1
      exact Calls.mono hc fun e w'' ⟨he, hg⟩ => by subst he; exact h _ hg
  · rw [if_neg (by rw [hw]; exact Bool.false_ne_true)]
    exact h _ (Grows.refl _)

/-- Another operation, apart from it. -/
theorem wpOp_besideC {j : Nat} {oi oj : Oper} {v : Value} {w : World} (hj : ops[j]? = some oj) (hap : oi.apart ops oj = true)
    (hsi : ∀ cs b, oi.op ≠ .select cs b) (hsj : ∀ cs b, oj.op ≠ .select cs b)
    (hQ : ∀ c a w, Q (.panic c) (a.put oi.dst v) w → Q (.panic c) a w) {K : Act → World → Prop} {a : Act} {u : World}
    (hy : YieldsC S P ops w oi v a) (h : wpOp P ops Q j K (a.put oi.dst v) u) :
    wpOp P ops Q j (fun a' u' => YieldsC S P ops w oi v a' ∧ K (a'.put oi.dst v) u') a u := by
  have h1 := wpOp_putIf (S := fun _ => False) hj hap hsi hsj hQ (hy.imp (fun ⟨h1, _⟩ => ⟨h1, fun _ h => h.elim⟩) id) h
  obtain ⟨_, _, h3⟩ := Oper.apart_spec hap
  refine wpOp_mono (fun a' u' h2 => ⟨h2.1, h2.2.2⟩) (wpOp_kept (Y := fun a' => YieldsC S P ops w oi v a') hj (fun ds x => ?_) h1)
  exact YieldsC.same (a := { a with defers := ds }) (hy.same rfl rfl) (execOp_put oi hsi _ oj.dst x h3) (wanted_put oi _ oj.dst x h3)

/-- Whatever order is picked; behind every operation ahead of number n the world has but grown; L: what is asked there. -/
def wpAnyC (S : Nat → Prop) (P : Program) (md : Region.Mode) (ops : Array Oper) (Q : Exit → Act → World → Prop) (n : Nat) (L : Array Bool → Act → World → Prop) : Nat → Array Bool → Act → World → Prop
  | 0, listed, a, w => L listed a w
  | f + 1, listed, a, w => Region.ready md ops listed ≠ [] ∧ ∀ i ∈ Region.ready md ops listed, i < n ∧
      ∀ u, Grows w u → wpOp P ops Q i (fun a' u' => Turns S u u' ∧ wpAnyC S P md ops Q n L f (listed.setIfInBounds i true) a' u') a u

theorem wpAnyC_later {n : Nat} {L : Array Bool → Act → World → Prop} (hL : ∀ listed a w w', Grows w w' → L listed a w → L listed a w') :
    ∀ (f : Nat) (listed : Array Bool) (a : Act) (w w' : World), Grows w w' → wpAnyC S P md ops Q n L f listed a w → wpAnyC S P md ops Q n L f listed a w'
  | 0, _, _, _, _, hg, h => hL _ _ _ _ hg h
  | _ + 1, _, _, _, _, hg, h => ⟨h.1, fun i hi => ⟨(h.2 i hi).1, fun u hu => (h.2 i hi).2 u (Grows.trans hg hu)⟩⟩

theorem wpAny_of_C {n g : Nat} {L : Array Bool → Act → World → Prop} (hL : ∀ listed a w, L listed a w → wpAny P md ops Q g listed a w) :
    ∀ (f : Nat) (listed : Array Bool) (a : Act) (w : World), wpAnyC S P md ops Q n L f listed a w → wpAny P md ops Q (f + g) listed a w
  | 0, listed, a, w, h => by rw [Nat.zero_add]; exact hL _ _ _ h
  | f + 1, listed, a, w, h => by
    rw [show f + 1 + g = (f + g) + 1 by omega]
    exact ⟨fun h0 => absurd h0 h.1, fun i hi => wpOp_mono (fun a' w' h' => wpAny_of_C hL f _ a' w' h'.2) ((h.2 i hi).2 w (Grows.refl w))⟩

theorem wpAnyC_first {n i : Nat} {oi : Oper} {v : Value} {L : Array Bool → Act → World → Prop} (hi : ops[i]? = some oi) (hsel : ∀ (j : Nat) (o : Oper) cs b, ops[j]? = some o → o.op ≠ .select cs b)
    (hQ : ∀ c a w, Q (.panic c) (a.put oi.dst v) w → Q (.panic c) a w) (hin : i < n) (hwait : ∀ listed, HeadInv md ops n listed → listed.getD i true = false → ∀ j ∈ Region.ready md ops listed, j < n)
    (hL : ∀ listed a w w', Grows w w' → L listed a w → L listed a w') (hdone : ∀ listed a w, L listed a w → ∀ j ∈ Region.ready md ops listed, n ≤ j) :
    ∀ (f : Nat) (listed : Array Bool) (a : Act) (w : World), HeadInv md ops n listed →
      (∀ j oj, ops[j]? = some oj → j ≠ i → listed.getD j true = false → (∀ e ∈ oj.after, Region.binds md e = true → e.on ≠ i) → oi.apart ops oj = true) →
      i ∈ Region.ready md ops listed → YieldsC S P ops w oi v a →
      wpAnyC S P md ops Q n L f (listed.setIfInBounds i true) (a.put oi.dst v) w → wpAnyC S P md ops Q n L (f + 1) listed a w := by
  intro f
  induction f with
  | zero =>
    intro listed a w inv _ hr hy H
    have hun := (mem_ready.1 hr).1
    refine ⟨fun h => (by rw [h] at hr; cases hr), fun j hj => ⟨hwait listed inv hun j hj, fun u hu => ?_⟩⟩
    by_cases hji : j = i
    · subst hji
      exact hy.wpOp hi (Turns.of_grows hu) fun u' hu' => ⟨Turns.of_grows hu', hL _ _ _ _ (Grows.trans hu hu') H⟩
    · have h1 := hdone _ _ _ H j (ready_mono hj hji)
      have h2 := hwait listed inv hun j hj
      omega
  | succ f ih =>
    intro listed a w inv hfree hr hy H
    have hun := (mem_ready.1 hr).1
    refine ⟨fun h => (by rw [h] at hr; cases hr), fun j hj => ⟨hwait listed inv hun j hj, fun u hu => ?_⟩⟩
    by_cases hji : j = i
    · subst hji
      exact hy.wpOp hi (Turns.of_grows hu) fun u' hu' => ⟨Turns.of_grows hu', wpAnyC_later hL _ _ _ _ _ (Grows.trans hu hu') H⟩
    · have h1 := (H.2 j (ready_mono hj hji)).2 u hu
      obtain ⟨hjun, oj, hoj, hall⟩ := mem_ready.1 hj
      have hnot : ∀ e ∈ oj.after, Region.binds md e = true → e.on ≠ i := fun e he hb heq => by
        have h1 := hall e he hb
        rw [heq, getD_both hun] at h1
        cases h1
      have h2 := wpOp_besideC hoj (hfree j oj hoj hji hjun hnot) (fun cs b => hsel i oi cs b hi) (fun cs b => hsel j oj cs b hoj) hQ hy h1
      have hfree' : ∀ k ok, ops[k]? = some ok → k ≠ i → (listed.setIfInBounds j true).getD k true = false →
          (∀ e ∈ ok.after, Region.binds md e = true → e.on ≠ i) → oi.apart ops ok = true := fun k ok hk hki hun' hno => by
        refine hfree k ok hk hki ?_ hno
        by_cases hjk : j = k
        · subst hjk; exact hjun
        · rwa [getD_set_ne true hjk] at hun'
      refine wpOp_mono (fun a' u' h3 => ⟨h3.2.1, ih (listed.setIfInBounds j true) a' u' (inv.set hj (hwait listed inv hun j hj)) hfree' (ready_mono hr (Ne.symm hji)) (h3.1.later (Turns.trans (Turns.of_grows hu) h3.2.1)) ?_⟩) h2
      rw [Array.setIfInBounds_comm _ _ hji]
      exact h3.2.2

/-- The walk in our order, from every world that has grown from w; E: what is asked behind it. -/
def wpOrdC (S : Nat → Prop) (P : Program) (ops : Array Oper) (Q : Exit → Act → World → Prop) (E : Act → World → Prop) : List (Nat × Bool) → Act → World → Prop
  | [], a, w => ∀ u, Grows w u → E a u
  | (i, true) :: s, a, w => ∃ o v, ops[i]? = some o ∧ YieldsC S P ops w o v a ∧ wpOrdC S P ops Q E s (a.put o.dst v) w
  | (i, false) :: s, a, w => ∀ u, Grows w u → wpOp P ops Q i (fun a' u' => Turns S u u' ∧ wpOrdC S P ops Q E s a' u') a u

theorem wpAnyC_of_ord {n g : Nat} {E : Act → World → Prop} (hs : Region.noSelect ops = true) (hQ : ∀ c a d v w, Q (.panic c) (Act.put a d v) w → Q (.panic c) a w)
    (hwait : ∀ i, i < n → ∀ listed, HeadInv md ops n listed → listed.getD i true = false → ∀ j ∈ Region.ready md ops listed, j < n) :
    ∀ (s : List (Nat × Bool)) (listed : Array Bool) (a : Act) (w : World), HeadInv md ops n listed → ordB md ops n g s listed = true → wpOrdC S P ops Q E s a w →
      wpAnyC S P md ops Q n (fun listed' a' w' => Region.seqB md ops g n listed' = true ∧ ∀ u, Grows w' u → E a' u) s.length listed a w
  | [], listed, a, w, inv, hB, h => ⟨hB, h⟩
  | (i, true) :: s, listed, a, w, inv, hB, h => by
    simp only [ordB, Bool.and_eq_true, decide_eq_true_eq] at hB
    obtain ⟨⟨⟨hin, hr⟩, hf⟩, hB'⟩ := hB
    obtain ⟨o, v, ho, hy, h'⟩ := h
    have hr' : i ∈ Region.ready md ops listed := by simpa using hr
    exact wpAnyC_first ho (Region.noSelect_spec hs) (fun c a w => hQ c a o.dst v w) hin (hwait i hin) (fun _ _ _ _ hg hl => ⟨hl.1, fun u hu => hl.2 u (Grows.trans hg hu)⟩) (fun _ _ _ hl => seqB_ready hl.1)
      s.length listed a w inv (Region.free_spec ho hf) hr' hy (wpAnyC_of_ord hs hQ hwait s _ _ w (inv.set hr' hin) hB' h')
  | (i, false) :: s, listed, a, w, inv, hB, h => by
    simp only [ordB, Bool.and_eq_true, decide_eq_true_eq] at hB
    obtain ⟨⟨hin, hr⟩, hB'⟩ := hB
    have hr' : Region.ready md ops listed = [i] := by simpa using hr
    have hm : i ∈ Region.ready md ops listed := by rw [hr']; simp
    refine ⟨fun h0 => (by rw [hr'] at h0; cases h0), fun j hj => ?_⟩
    rw [hr'] at hj
    have hji : j = i := by simpa using hj
    subst hji
    exact ⟨hin, fun u hu => wpOp_mono (fun a' w' h' => ⟨h'.1, wpAnyC_of_ord hs hQ hwait s _ a' w' (inv.set hm hin) hB' h'.2⟩) (h u hu)⟩

/-- THE RULE. -/
theorem wp_region_callw {id : Nat} {a : Act} {w : World} {l : List Oper} (n : Nat) (s : List (Nat × Bool)) (hm : P.follows .mixedOrders = true) (hB : ordWholeB l.toArray n s = true)
    (h : wpOrdC S P l.toArray (NoPanic Q) (fun a' u => wpList P l.toArray (NoPanic Q) (l.drop n) a' u) s a w.drew) : (Code.region id l.toArray true).wp P Q a w := by
  simp only [ordWholeB, Bool.and_eq_true, decide_eq_true_eq, Bool.or_eq_true, beq_iff_eq] at hB
  obtain ⟨⟨⟨⟨hsel, hn⟩, hc⟩, hl⟩, hord⟩ := hB
  have hdl : (l.drop n).length = l.toArray.size - n := by simp
  have inv0 : HeadInv .any l.toArray n (Array.replicate l.toArray.size false) :=
    ⟨by simp, fun j oj _ hl => (by rw [getD_replicate_false] at hl; cases hl), fun t _ ht => getD_in (by simpa using ht) (getD_replicate_false _ _)⟩
  have hwait : ∀ i, i < n → ∀ listed, HeadInv .any l.toArray n listed → listed.getD i true = false → ∀ j ∈ Region.ready .any l.toArray listed, j < n := fun i hi listed inv hun j hj => by
    rcases hc with hc | ⟨hs, hch⟩
    · obtain ⟨_, oj, hoj, _⟩ := mem_ready.1 hj
      have := (Array.getElem?_eq_some_iff.1 hoj).1
      omega
    · rcases Nat.lt_or_ge j n with h | h
      · exact h
      · have hjs : j < l.toArray.size := by
          obtain ⟨_, oj, hoj, _⟩ := mem_ready.1 hj
          exact (Array.getElem?_eq_some_iff.1 hoj).1
        exact absurd hj (tail_waits hs hch (by omega) inv _ i rfl hi hun j h)
  refine wp_region_noPanic (wp_region_any hm ?_)
  have H := wpAnyC_of_ord (md := .any) (g := l.toArray.size - n) (Q := NoPanic Q) hsel (fun c a d v w h => h) hwait s _ a w.drew inv0 hord h
  have := wpAny_of_C (Q := NoPanic Q) (g := l.toArray.size - n) (fun listed a' w' hL => by
    have := wpAny_of_seq (md := .any) (Q' := NoPanic Q) (l.drop n) n listed a' w' (fun j => by simp [List.getElem?_drop]) (by rw [hdl]; exact hL.1) (hL.2 w' (Grows.refl _))
    rwa [hdl] at this) _ _ _ _ H
  rw [hl, show n + (l.toArray.size - n) = l.toArray.size by omega] at this
  exact this

theorem orc_take {l : List Oper} {E : Act → World → Prop} {w0 w : World} {i : Nat} {s : List (Nat × Bool)} {a : Act} (h0 : Turns S w0 w) (o : Oper) (v : Value) (ho : l[i]? = some o)
    (hw : Region.wanted o (yielded l.toArray a.tmps) = true) (hy : ∀ u, Turns S w0 u → Turns S w u → (execOp a.eval o).run P u = .ok (.value v) u)
    (h : wpOrdC S P l.toArray Q E s (a.put o.dst v) w) : wpOrdC S P l.toArray Q E ((i, true) :: s) a w :=
  ⟨o, v, by simpa using ho, .inl ⟨hw, fun u hu => by unfold Oper.quietAt; rw [hy u (Turns.trans h0 hu) hu]; exact ⟨rfl, rfl⟩⟩, h⟩
/-- A call that yields one value, and lets the world but grow. -/
theorem orc_call {l : List Oper} {E : Act → World → Prop} {w0 w : World} {i : Nat} {s : List (Nat × Bool)} {a : Act} (h0 : Turns S w0 w) (o : Oper) (v : Value) (ho : l[i]? = some o)
    (hw : Region.wanted o (yielded l.toArray a.tmps) = true) (hy : ∀ u, Turns S w0 u → Turns S w u → Oper.quietUpon P (Grows u) u v ((execOp a.eval o).run P u))
    (h : wpOrdC S P l.toArray Q E s (a.put o.dst v) w) : wpOrdC S P l.toArray Q E ((i, true) :: s) a w :=
  ⟨o, v, by simpa using ho, .inl ⟨hw, fun u hu => hy u (Turns.trans h0 hu) hu⟩, h⟩
theorem orc_load {l : List Oper} {E : Act → World → Prop} {w0 w : World} {i : Nat} {s : List (Nat × Bool)} {a : Act} (h0 : Turns S w0 w) (o : Oper) (v : Value) (ho : l[i]? = some o)
    (hw : Region.wanted o (yielded l.toArray a.tmps) = true) (ty : TypeId) (x : Operand) (hop : o.op = .load ty x) (p : Option Addr) (hx : a.eval x = .pointer p)
    (hy : ∀ u, Turns S w0 u → (Instr.loadAt ty (.pointer p)).run P u = .ok v u)
    (h : wpOrdC S P l.toArray Q E s (a.put o.dst v) w) : wpOrdC S P l.toArray Q E ((i, true) :: s) a w :=
  orc_take h0 o v ho hw (fun u hu _ => exec_load hop hx (hy u hu)) h
theorem orc_skip {l : List Oper} {E : Act → World → Prop} {w : World} {i : Nat} {s : List (Nat × Bool)} {a : Act} (o : Oper) (ho : l[i]? = some o)
    (hw : Region.wanted o (yielded l.toArray a.tmps) = false) (h : wpOrdC S P l.toArray Q E s (a.put o.dst undef) w) : wpOrdC S P l.toArray Q E ((i, true) :: s) a w :=
  ⟨o, undef, by simpa using ho, .inr ⟨hw, rfl⟩, h⟩
theorem orc_move {l : List Oper} {E : Act → World → Prop} {w : World} {i : Nat} {s : List (Nat × Bool)} {a : Act} (o : Oper) (ho : l[i]? = some o)
    (hw : Region.wanted o (yielded l.toArray a.tmps) = true)
    (h : ∀ u, Grows w u → ∀ K : Act → World → Prop, Shut (∀ a' u', Turns S u u' → wpOrdC S P l.toArray Q E s a' u' → K a' u') → Oper.wp P o a u K Q) : wpOrdC S P l.toArray Q E ((i, false) :: s) a w := by
  intro u hu
  refine wpOp_step (by simpa using ho) fun K hK => ?_
  rw [if_pos hw]
  exact h u hu K fun a' w' hg hs => hK a' w' ⟨hg, hs⟩
theorem orc_pass {l : List Oper} {E : Act → World → Prop} {w : World} {i : Nat} {s : List (Nat × Bool)} {a : Act} (o : Oper) (ho : l[i]? = some o)
    (hw : Region.wanted o (yielded l.toArray a.tmps) = false) (h : ∀ u, Grows w u → wpOrdC S P l.toArray Q E s (a.put o.dst undef) u) : wpOrdC S P l.toArray Q E ((i, false) :: s) a w := by
  intro u hu
  refine wpOp_step (by simpa using ho) fun K hK => ?_
  rw [if_neg (by rw [hw]; exact Bool.false_ne_true)]
  exact hK _ _ ⟨Turns.refl S _, h u hu⟩
theorem orc_done {l : List Oper} {E : Act → World → Prop} {w : World} {a : Act} (h : ∀ u, Grows w u → E a u) : wpOrdC S P l.toArray Q E [] a w := h

/-- A value built of parts, as one operation of a region that draws its order. -/
theorem orc_build {l : List Oper} {E : Act → World → Prop} {w0 w : World} {i : Nat} {s : List (Nat × Bool)} {a : Act} (h0 : Turns S w0 w) (o : Oper) (v : Value) (ho : l[i]? = some o)
    (hw : Region.wanted o (yielded l.toArray a.tmps) = true) (t : TypeId) (parts : Array (Nat × Operand)) (hop : o.op = .build t parts) (ps : Array (Nat × Value)) (hy : ∀ u, (Instr.build t ps).run P u = .ok v u) (hp : (parts.map fun (i, x) => (i, a.eval x)) = ps)
    (h : wpOrdC S P l.toArray Q E s (a.put o.dst v) w) : wpOrdC S P l.toArray Q E ((i, true) :: s) a w :=
  orc_take h0 o v ho hw (fun u hu _ => by
    unfold execOp
    simp only [hop, hp, Sem.run_bind, hy u, Result.andThen_ok, Sem.run_pure]) h
/-- A slice built of parts. -/
theorem orc_bslice {l : List Oper} {E : Act → World → Prop} {w : World} {i : Nat} {s : List (Nat × Bool)} {a : Act} (o : Oper) (ho : l[i]? = some o)
    (hw : Region.wanted o (yielded l.toArray a.tmps) = true) (t : TypeId) (len : Nat) (parts : Array (Nat × Operand)) (hop : o.op = .buildSlice t len parts) (ps : Array (Nat × Value)) (cs : List Value) (e : TypeId)
    (hy : ∀ u, (Instr.buildSlice t len ps).run P u = .ok (.slice (some ⟨u.heap.size, 0, none⟩) len len) (u.alloc (.cells cs.toArray e))) (hp : (parts.map fun (i, x) => (i, a.eval x)) = ps)
    (h : ∀ u, Grows w u → wpOrdC S P l.toArray Q E s (a.put o.dst (.slice (some ⟨u.heap.size, 0, none⟩) len len)) (u.alloc (.cells cs.toArray e))) : wpOrdC S P l.toArray Q E ((i, false) :: s) a w :=
  orc_move o ho hw (fun u hu K hK => by
    unfold Oper.wp execOp
    simp only [hop, hp, Sem.run_bind, hy u, Result.andThen_ok, Sem.run_pure]
    exact hK.out _ _ (Turns.of_grows ((Grows.refl u).alloc (Nat.le_refl _) _)) (h u hu))
end
attribute [irreducible] wpOrdC
end Go.Proofs.YtbcldknecdbemaaDoor

/-
  store: what Put does one behind the other.
-/
namespace Go.Proofs.YtbcldknecdbemaaDoor
open Go.RowKit
set_option linter.unusedVariables false
set_option maxRecDepth 20000

section
variable (a m : Nat) (X : Nat → Prop) (D : Dk) (u : World) (B2 B7 B3 : Nat)
set_option maxHeartbeats 2000000 in
theorem put1_any (A : Option Addr) (n c : Nat) (b p : Byts) (hd : Dsk u a m X D) (hX : ∀ k, X k → k < u.heap.size) (h2 : Has u B2 [.pointer (some ⟨a, 0, none⟩)]) (h7 : Has u B7 [tv p]) (h3 : Has u B3 [.slice A n c])
    (x2 : X B2) (x7 : X B7) (x3 : X B3) (hl : b.length = n) (hr : Lies u u.heap.size A (b.map bv)) (hc : n ≤ c) (hn : n ≤ 1000000) (hW : D.weight + n + 10 ≤ 100000000) (hw : D.waits.length ≤ 1000000) (hro : 0 ≤ D.room ∧ D.room ≤ 1048576) :
    Calls Tryd.prog 67 #[.pointer (some ⟨B2, 0, none⟩), .pointer (some ⟨B7, 0, none⟩), .pointer (some ⟨B3, 0, none⟩)] u fun e w' => e = .returned (rv (writeD D p (sealOf b)).2) ∧ Dsk w' a m X (writeD D p (sealOf b)).1 ∧ Turns (fun k => m ≤ k ∧ ¬ X k) u w' := by
  have SE := fun v (h : Grows u v) => seal_out A n c b v hl (hr.later h) hc (by omega)
  have WR := fun (v : World) (A' : Option Addr) (fn c' : Nat) (f : Byts) (hv : Dsk v a m X D) (hx : ∀ k, X k → k < v.heap.size) (hf : f.length = fn) (hfl : fn ≤ n + 10) (hl : Lies v v.heap.size A' (f.map bv)) => write_d a m X D v p A' fn c' f hv hx hf hl (by omega) hw hro
  have gd := (Grows.refl u).drew
  have f2 : ∀ v, Turns (fun k => m ≤ k ∧ ¬ X k) u.drew v → v.cell? ⟨B2, 0, none⟩ = some (.pointer (some ⟨a, 0, none⟩)) := fun v h => ((h2.later gd).turned h (fun e => e.2 x2)).cell (k := 0) rfl
  have f7 : ∀ v, Turns (fun k => m ≤ k ∧ ¬ X k) u.drew v → v.cell? ⟨B7, 0, none⟩ = some (tv p) := fun v h => ((h7.later gd).turned h (fun e => e.2 x7)).cell (k := 0) rfl
  have f3 : ∀ v, Turns (fun k => m ≤ k ∧ ¬ X k) u.drew v → v.cell? ⟨B3, 0, none⟩ = some (.slice A n c) := fun v h => ((h3.later gd).turned h (fun e => e.2 x3)).cell (k := 0) rfl
  have hO := Turns.refl (fun k => m ≤ k ∧ ¬ X k) u.drew
  clear h2 h7 h3
  go_enter Tryd.func67, Tryd.ntmps67
  go_wp2_with fail
  refine wp_region_callw (S := fun k => m ≤ k ∧ ¬ X k) 6 [(0, true), (1, true), (2, true), (3, false), (4, false), (5, true)] (by kernel_rfl) (by kernel_rfl) ?_
  repeat (refine orc_take hO _ ?_ (by simp only [List.getElem?_cons_succ, List.getElem?_cons_zero]; rfl) (by rfl) ?_ ?_; rotate_left; (· (intro u hu0 hu; (try go_simp); (try with_reducible rfl))); try simp only [Act.put, List.setIfInBounds_toArray, List.set_cons_zero, List.set_cons_succ])
  refine orc_move _ (by simp only [List.getElem?_cons_succ, List.getElem?_cons_zero]; rfl) (by rfl) (fun v hv K hK => ?_)
  go_simp
  have gv := Grows.trans gd hv
  refine (SE v gv).mono ?_
  rintro e v1 ⟨f, fn, c1, A1, HF, HFN, _, hfl, rfl, _, hown, hL1, g1⟩
  refine hK.out _ _ (Turns.of_grows g1) ?_
  clear hK K hO f2 f7 f3
  have hO := Turns.refl (fun k => m ≤ k ∧ ¬ X k) v1
  repeat (refine orc_take hO _ ?_ (by simp only [List.getElem?_cons_succ, List.getElem?_cons_zero]; rfl) (by rfl) ?_ ?_; rotate_left; (· (intro u hu0 hu; (try go_simp); (try with_reducible rfl))); try simp only [Act.put, List.setIfInBounds_toArray, List.set_cons_zero, List.set_cons_succ])
  refine orc_move _ (by simp only [List.getElem?_cons_succ, List.getElem?_cons_zero]; rfl) (by rfl) (fun v2 hv2 K hK => ?_)
  go_simp
  have G2 := Grows.trans gv (Grows.trans g1 hv2)
  refine (WR v2 A1 fn c1 f (hd.later G2) (fun k hk => Nat.lt_of_lt_of_le (hX k hk) G2.size) HFN.out hfl (hL1.later hv2)).mono ?_
  rintro e v3 ⟨rfl, d3, t3⟩
  refine hK.out _ _ t3 ?_
  clear hK K hO
  have hO := Turns.refl (fun k => m ≤ k ∧ ¬ X k) v3
  repeat (refine orc_take hO _ ?_ (by simp only [List.getElem?_cons_succ, List.getElem?_cons_zero]; rfl) (by rfl) ?_ ?_; rotate_left; (· (intro u hu0 hu; (try go_simp); (try with_reducible rfl))); try simp only [Act.put, List.setIfInBounds_toArray, List.set_cons_zero, List.set_cons_succ])
  refine orc_done (fun v4 hv4 => ?_)
  simp only [List.drop_succ_cons, List.drop_zero]
  go_wp2_with fail
  refine NoPanic.normal ?_
  go_wp2_with fail
  go_ret
  rw [HF.out]
  exact ⟨rfl, d3.later hv4, ((Turns.of_grows G2).trans t3).trans (Turns.of_grows hv4)⟩

set_option maxHeartbeats 2000000 in
theorem put2_any (nm p : Byts) (hd : Dsk u a m X D) (hX : ∀ k, X k → k < u.heap.size) (h2 : Has u B2 [.pointer (some ⟨a, 0, none⟩)]) (h7 : Has u B7 [tv p]) (h3 : Has u B3 (nm.map bv))
    (x2 : X B2) (x7 : X B7) (x3 : X B3) (hl : nm.length = 32) (hp : p.length ≤ 1000) (hW : D.weight ≤ 100000000) (hw : D.waits.length ≤ 1000000) :
    Calls Tryd.prog 71 #[.pointer (some ⟨B2, 0, none⟩), .pointer (some ⟨B7, 0, none⟩), .pointer (some ⟨B3, 0, none⟩)] u fun e w' => e = .returned (rv (renameD D p (placeB nm)).2) ∧ Dsk w' a m X (renameD D p (placeB nm)).1 ∧ Turns (fun k => m ≤ k ∧ ¬ X k) u w' := by
  have PL := fun v => place_any nm v hl
  have RN := fun (v : World) (hv : Dsk v a m X D) (hx : ∀ k, X k → k < v.heap.size) => rename_d a m X D v p (placeB nm) hv hx hW hw (by omega)
  have hL32 : (Tryd.prog.info? 26).map (·.size) = some (nm.map bv).length := by rw [List.length_map, hl]; exact Hx.dig_size
  have gd := (Grows.refl u).drew
  have f2 : ∀ v, Turns (fun k => m ≤ k ∧ ¬ X k) u.drew v → v.cell? ⟨B2, 0, none⟩ = some (.pointer (some ⟨a, 0, none⟩)) := fun v h => ((h2.later gd).turned h (fun e => e.2 x2)).cell (k := 0) rfl
  have f7 : ∀ v, Turns (fun k => m ≤ k ∧ ¬ X k) u.drew v → v.cell? ⟨B7, 0, none⟩ = some (tv p) := fun v h => ((h7.later gd).turned h (fun e => e.2 x7)).cell (k := 0) rfl
  have ldn : ∀ v, Turns (fun k => m ≤ k ∧ ¬ X k) u.drew v → (Instr.loadAt 26 (.pointer (some ⟨B3, 0, none⟩))).run Tryd.prog v = .ok (dv nm) v := fun v h => ((h3.later gd).turned h (fun e => e.2 x3)).load Tryd.underlying26 rfl hL32
  have hO := Turns.refl (fun k => m ≤ k ∧ ¬ X k) u.drew
  generalize placeB nm = q at *
  clear h2 h7 h3
  go_enter Tryd.func71, Tryd.ntmps71
  go_wp2_with fail
  refine wp_region_callw (S := fun k => m ≤ k ∧ ¬ X k) 6 [(0, true), (1, true), (2, true), (3, true), (4, false), (5, true)] (by kernel_rfl) (by kernel_rfl) ?_
  repeat (first | (refine orc_load hO _ _ (by simp only [List.getElem?_cons_succ, List.getElem?_cons_zero]; rfl) (by rfl) 26 (.tmp 2) (by rfl) _ (by rfl) ldn ?_; try simp only [Act.put, List.setIfInBounds_toArray, List.set_cons_zero, List.set_cons_succ]) | (refine orc_take hO _ ?_ (by simp only [List.getElem?_cons_succ, List.getElem?_cons_zero]; rfl) (by rfl) ?_ ?_; rotate_left; (· (intro u hu0 hu; (try go_simp); (try with_reducible rfl))); try simp only [Act.put, List.setIfInBounds_toArray, List.set_cons_zero, List.set_cons_succ]) | (refine orc_call hO _ ?_ (by simp only [List.getElem?_cons_succ, List.getElem?_cons_zero]; rfl) (by rfl) ?_ ?_; rotate_left; (· (intro u hu0 hu; go_simp; (try refine quiet_enter ?_); (exact PL u))); try simp only [Act.put, List.setIfInBounds_toArray, List.set_cons_zero, List.set_cons_succ]))
  refine orc_move _ (by simp only [List.getElem?_cons_succ, List.getElem?_cons_zero]; rfl) (by rfl) (fun v2 hv2 K hK => ?_)
  go_simp
  have G2 := Grows.trans gd hv2
  refine (RN v2 (hd.later G2) (fun k hk => Nat.lt_of_lt_of_le (hX k hk) G2.size)).mono ?_
  rintro e v3 ⟨rfl, d3, t3⟩
  refine hK.out _ _ t3 ?_
  clear hK K hO ldn f2 f7
  have hO := Turns.refl (fun k => m ≤ k ∧ ¬ X k) v3
  repeat (refine orc_take hO _ ?_ (by simp only [List.getElem?_cons_succ, List.getElem?_cons_zero]; rfl) (by rfl) ?_ ?_; rotate_left; (· (intro u hu0 hu; (try go_simp); (try with_reducible rfl))); try simp only [Act.put, List.setIfInBounds_toArray, List.set_cons_zero, List.set_cons_succ])
  refine orc_done (fun v4 hv4 => ?_)
  simp only [List.drop_succ_cons, List.drop_zero]
  go_wp2_with fail
  refine NoPanic.normal ?_
  go_wp2_with fail
  go_ret
  exact ⟨rfl, d3.later hv4, ((Turns.of_grows G2).trans t3).trans (Turns.of_grows hv4)⟩
end
end Go.Proofs.YtbcldknecdbemaaDoor

/-
  Law 12's example.
-/
namespace Go.Proofs.YtbcldknecdbemaaDoor
open Go.RowKit
set_option linter.unusedVariables false
set_option maxRecDepth 20000

theorem bool_one (l : List Bool) : ∀ u ∈ l.map Value.bool, u.oneCell' = true := fun u hu => by
  obtain ⟨b, _, rfl⟩ := List.mem_map.1 hu
  rfl
theorem lies_in_new (w : World) (t : TypeId) (vs : List Value) : LiesIn (fun k => k = w.heap.size) (w.alloc (.cells vs.toArray t)) (some ⟨w.heap.size, 0, none⟩) vs := fun j u hu => by
  refine ⟨_, rfl, rfl, ?_⟩
  rw [add_plain, Nat.zero_add]
  exact (Has.new w t vs).cell hu
theorem LiesIn.mono {ok ok' : Nat → Prop} {w : World} {A : Option Addr} {vs : List Value} (h : LiesIn ok w A vs) (hk : ∀ k, ok k → ok' k) : LiesIn ok' w A vs := fun j u hu => let ⟨ad, e, ho, hc⟩ := h j u hu; ⟨ad, e, hk _ ho, hc⟩
/-- Bytes of a constant, as the walk leaves them. -/
theorem lies_mark (w : World) (l : Byts) (fr : Nat × Nat) : Lies (w.alloc (.cells (l.map bv).toArray 5 fr)) (w.alloc (.cells (l.map bv).toArray 5 fr)).heap.size (some ⟨w.heap.size, 0, none⟩) (l.map bv) := fun j u hu => by
  refine ⟨_, rfl, by rw [World.size_alloc]; exact Nat.lt_succ_self _, ?_⟩
  rw [add_plain, Nat.zero_add, World.cell?_alloc_mark]
  simpa using hu
def exD1 : Dk := (writeD (newD 100) [97] [49, 50, 51, 52]).1
def exD2 : Dk := restartD exD1 [true, false]
def exD3 : Dk := (writeD exD2 [98] []).1
def exD4 : Dk := restartD exD3 []
end Go.Proofs.YtbcldknecdbemaaDoor

/-
  The reference's disks in memory; its Named, Find, Used.
-/
namespace Go.Proofs.YtbcldknecdbemaaDoor
open Go.RowKit
set_option linter.unusedVariables false
set_option maxRecDepth 20000

def fC (x : Byts × Byts) : List Value := [tv x.1, tv x.2]
theorem fC_len (S : Fls) : ∀ r ∈ S.map fC, r.length = 2 := fun r hr => by
  obtain ⟨x, _, rfl⟩ := List.mem_map.1 hr
  rfl
theorem fC_one (S : Fls) : ∀ u ∈ (S.map fC).flatten, u.oneCell' = true := fun u hu => by
  obtain ⟨r, hr, hu⟩ := List.mem_flatten.1 hu
  obtain ⟨x, _, rfl⟩ := List.mem_map.1 hr
  simp [fC] at hu
  rcases hu with rfl | rfl <;> rfl
/-- A list of files, as a value. -/
def FsV (w : World) (ok : Nat → Prop) (v : Value) (S : Fls) : Prop := ∃ A c, v = .slice A S.length c ∧ S.length ≤ c ∧ c ≤ maxLen ∧ LiesIn ok w A (S.map fC).flatten ∧ (A = none ∨ ∃ g, A = some ⟨g, 0, none⟩)
section
variable {w w' : World} {ok ok' Q : Nat → Prop} {v : Value} {S : Fls}
theorem FsV.later (h : FsV w ok v S) (hg : Grows w w') : FsV w' ok v S := by
  obtain ⟨A, c, a, b, d, e, f⟩ := h
  exact ⟨A, c, a, b, d, e.later hg, f⟩
theorem FsV.turned (h : FsV w ok v S) (ht : Turns Q w w') (hQ : ∀ k, ok k → ¬ Q k) : FsV w' ok v S := by
  obtain ⟨A, c, a, b, d, e, f⟩ := h
  exact ⟨A, c, a, b, d, e.turned ht hQ, f⟩
theorem FsV.mono (h : FsV w ok v S) (hk : ∀ k, ok k → ok' k) : FsV w ok' v S := by
  obtain ⟨A, c, a, b, d, e, f⟩ := h
  exact ⟨A, c, a, b, d, e.mono hk, f⟩
theorem FsV.nil (w : World) (ok : Nat → Prop) : FsV w ok (.slice none 0 0) [] := ⟨none, 0, rfl, Nat.le_refl _, Nat.zero_le _, fun j u hu => by simp at hu, .inl rfl⟩
theorem lies_cut {A : Option Addr} {vs : List Value} (h : LiesIn ok w A vs) : LiesIn (fun k => ok k ∧ k < w.heap.size) w A vs := fun j u hu => by
  obtain ⟨ad, e, ho, hc⟩ := h j u hu
  have := World.block_lt_of_cell? w _ hc
  rw [add_block] at this
  exact ⟨ad, e, ⟨ho, this⟩, hc⟩
theorem FsV.cut (h : FsV w ok v S) : FsV w (fun k => ok k ∧ k < w.heap.size) v S := by
  obtain ⟨A, c, a, b, d, e, f⟩ := h
  exact ⟨A, c, a, b, d, lies_cut e, f⟩
theorem FsV.at_ {A : Option Addr} {n c : Nat} (h : FsV w ok (.slice A n c) S) {i : Nat} {x : Byts × Byts} (hi : S[i]? = some x) : ∃ g, A = some ⟨g, 0, none⟩ ∧ w.cell? ⟨g, i * 2, none⟩ = some (tv x.1) ∧ w.cell? ⟨g, i * 2 + 1, none⟩ = some (tv x.2) := by
  obtain ⟨A', c', e1, h1, h2, h3, h4⟩ := h
  injection e1 with e1 _ _
  subst e1
  have hi' : (S.map fC)[i]? = some (fC x) := by rw [List.getElem?_map, hi]; rfl
  obtain ⟨ad, e, _, hc⟩ := h3 _ _ (flat_at (fC_len S) hi' (j := 0) rfl)
  obtain ⟨ad', e', _, hc'⟩ := h3 _ _ (flat_at (fC_len S) hi' (j := 1) rfl)
  subst e
  injection e' with e'
  subst e'
  rcases h4 with h4 | ⟨g, h4⟩
  · cases h4
  · injection h4 with h4
    subst h4
    rw [add_plain, Nat.zero_add] at hc hc'
    exact ⟨g, rfl, hc, hc'⟩
theorem FsV.form (h : FsV w ok v S) : ∃ A c, v = .slice A S.length c := by
  obtain ⟨A, c, a, _⟩ := h
  exact ⟨A, c, a⟩
end
/-- Where a file stands; -1: nowhere. -/
def findI : Fls → Byts → Nat → Int
  | [], _, _ => -1
  | x :: r, p, i => if x.1 = p then (i : Int) else findI r p (i + 1)
theorem findI_spec (p : Byts) : ∀ (S : Fls) (i : Nat), (findI S p i = -1 ∧ fGet S p = none) ∨ ∃ j b, findI S p i = ((i + j : Nat) : Int) ∧ S[j]? = some (p, b) ∧ fGet S p = some b
  | [], i => .inl ⟨rfl, rfl⟩
  | x :: r, i => by
    unfold findI
    rw [fGet_cons]
    by_cases h : x.1 = p
    · rw [if_pos h, if_pos h]
      exact .inr ⟨0, x.2, rfl, by rw [← h]; rfl, rfl⟩
    · rw [if_neg h, if_neg h]
      rcases findI_spec p r (i + 1) with h1 | ⟨j, b, h1, h2, h3⟩
      · exact .inl h1
      · exact .inr ⟨j + 1, b, by rw [h1]; congr 1; omega, by simpa using h2, h3⟩
theorem tix_any (l : Byts) (k : Nat) (b : UInt8) (h : l[k]? = some b) (w : World) : (Instr.index 9 (tv l) (.int .i64 (k : Int))).run Tryd.prog w = .ok (bv b) w := by
  obtain ⟨hk, e⟩ := List.getElem?_eq_some_iff.1 h
  rw [run_index_string w 9 _ .i64 (k : Int) Tryd.underlying9, dif_pos ⟨by omega, by rw [size_mk]; omega⟩]
  have : ((⟨l.toArray⟩ : ByteArray)[(k : Int).toNat]'(by rw [size_mk]; omega)) = l[k] := rfl
  rw [this, e]
theorem sum_sub {l l' : List Nat} (h : l'.Sublist l) : l'.sum ≤ l.sum := by
  induction h with
  | slnil => exact Nat.le_refl _
  | cons x _ ih => simp; omega
  | cons_cons x _ ih => simp; omega
theorem f_size : (Tryd.prog.info? 250).map (·.size) = some 2 := by kernel_rfl

theorem used_take (S : Fls) (k : Nat) {x : Byts × Byts} (h : S[k]? = some x) : fUsed (S.take (k + 1)) = fUsed (S.take k) + x.2.length := by
  rw [take_at h]; simp [fUsed]
theorem used_le (S : Fls) (k : Nat) : fUsed (S.take k) ≤ fUsed S := by
  have : (S.take k).Sublist S := List.take_sublist k S
  unfold fUsed
  exact sum_sub (this.map _)
/-- The reference's disk, as a value. -/
abbrev dV (D : Dk) (sv lv wv : Value) : Value := .agg #[rv D.room, sv, lv, wv, rv D.power]
end Go.Proofs.YtbcldknecdbemaaDoor

/-
  The reference's without, with.
-/
namespace Go.Proofs.YtbcldknecdbemaaDoor
open Go.RowKit
set_option linter.unusedVariables false
set_option maxRecDepth 20000

/-- Blocks that are ok, or new since w. -/
abbrev Nw (w : World) (ok : Nat → Prop) (k : Nat) : Prop := ok k ∨ w.heap.size ≤ k
theorem f_info : (Tryd.prog.info? 250).map (fun i => (i.zero, i.size, i.bytes)) = some (some (.agg #[.string ⟨#[]⟩, .string ⟨#[]⟩]), 2, 32) := by kernel_rfl
theorem FsV.own {w : World} {base : Nat} {v : Value} {S : Fls} {ok : Nat → Prop} (h : w.ownsRow base 250 2 v S.length (S.map fC).flatten) (hb : ∀ k, base ≤ k → ok k) : FsV w ok v S := by
  rcases h.2 with ⟨rfl, h0⟩ | ⟨g, c, cur, rfl, hg, hh, hnc, hm, hs, ht⟩
  · have : S = [] := by
      cases S with
      | nil => rfl
      | cons x r => simp [fC] at h0
    subst this
    exact FsV.nil _ _
  · refine ⟨_, c, rfl, hnc, hm, fun j u hu => ⟨_, rfl, hb g hg, ?_⟩, .inr ⟨g, rfl⟩⟩
    rw [add_plain, Nat.zero_add, cell_of_row w g _ cur 250 (0, 0) hh]
    have h2 : (cur.toList.take (S.length * 2))[j]? = some u := by rw [ht]; exact hu
    rw [List.getElem?_take] at h2
    split at h2
    · simpa using h2
    · cases h2
theorem load_f {w : World} {g j : Nat} {x : Byts × Byts} (h0 : w.cell? ⟨g, j, none⟩ = some (tv x.1)) (h1 : w.cell? ⟨g, j + 1, none⟩ = some (tv x.2)) : (Instr.loadAt 250 (.pointer (some ⟨g, j, none⟩))).run Tryd.prog w = .ok (.agg #[tv x.1, tv x.2]) w :=
  range_load (cs := [tv x.1, tv x.2]) (fun i u hu => by
    match i, hu with
    | 0, hu => simp at hu; rw [← hu]; exact h0
    | 1, hu => simp at hu; rw [← hu]; exact h1) Tryd.underlying250 rfl f_size
theorem fC_snoc (S : Fls) (x : Byts × Byts) : ((S ++ [x]).map fC).flatten = (S.map fC).flatten ++ fC x := by simp
theorem run_tge (t : TypeId) (x y : Byts) : binOp .geq t (tv x) (tv y) = (pure (.bool !(decide (cmpB x y = -1))) : Sem Value) := by
  rw [show binOp .geq t (tv x) (tv y) = pure (.bool !(Op.bytesLess (⟨x.toArray⟩ : ByteArray).toList (⟨y.toArray⟩ : ByteArray).toList)) by simp [binOp, Op.stringOp], toList_mk, toList_mk, less_cmp]
end Go.Proofs.YtbcldknecdbemaaDoor

/-
  The reference's Make; changes as values.
-/
namespace Go.Proofs.YtbcldknecdbemaaDoor
open Go.RowKit
set_option linter.unusedVariables false
set_option maxRecDepth 20000

/-- A change as the reference has it. -/
def cC : Chg → List Value
  | .wr p b => [rv 0, tv p, tv [], tv b]
  | .rn p q => [rv 1, tv p, tv q, tv []]
  | .rm p => [rv 2, tv p, tv [], tv []]
theorem cC_len (c : Chg) : (cC c).length = 4 := by cases c <;> rfl
theorem cC_one (c : Chg) : ∀ u ∈ cC c, u.oneCell' = true := by cases c <;> (intro u hu; simp [cC] at hu; rcases hu with rfl | rfl | rfl | rfl <;> rfl)
section
variable (v : Value) (S : Fls) (w : World) (ok : Nat → Prop)
end
/-- A list of changes, as a value. -/
def CsV (w : World) (ok : Nat → Prop) (v : Value) (l : List Chg) : Prop := ∃ A c, v = .slice A l.length c ∧ l.length ≤ c ∧ c ≤ maxLen ∧ LiesIn ok w A (l.map cC).flatten ∧ (A = none ∨ ∃ g, A = some ⟨g, 0, none⟩)
section
variable {w w' : World} {ok ok' Q : Nat → Prop} {v : Value} {l : List Chg}
theorem CsV.later (h : CsV w ok v l) (hg : Grows w w') : CsV w' ok v l := by
  obtain ⟨A, c, a, b, d, e, f⟩ := h
  exact ⟨A, c, a, b, d, e.later hg, f⟩
theorem CsV.turned (h : CsV w ok v l) (ht : Turns Q w w') (hQ : ∀ k, ok k → ¬ Q k) : CsV w' ok v l := by
  obtain ⟨A, c, a, b, d, e, f⟩ := h
  exact ⟨A, c, a, b, d, e.turned ht hQ, f⟩
theorem CsV.mono (h : CsV w ok v l) (hk : ∀ k, ok k → ok' k) : CsV w ok' v l := by
  obtain ⟨A, c, a, b, d, e, f⟩ := h
  exact ⟨A, c, a, b, d, e.mono hk, f⟩
theorem CsV.cut (h : CsV w ok v l) : CsV w (fun k => ok k ∧ k < w.heap.size) v l := by
  obtain ⟨A, c, a, b, d, e, f⟩ := h
  exact ⟨A, c, a, b, d, lies_cut e, f⟩
theorem CsV.nil (w : World) (ok : Nat → Prop) : CsV w ok (.slice none 0 0) [] := ⟨none, 0, rfl, Nat.le_refl _, Nat.zero_le _, fun j u hu => by simp at hu, .inl rfl⟩
theorem CsV.form (h : CsV w ok v l) : ∃ A c, v = .slice A l.length c := by
  obtain ⟨A, c, a, _⟩ := h
  exact ⟨A, c, a⟩
theorem cCs_len (l : List Chg) : ∀ r ∈ l.map cC, r.length = 4 := fun r hr => by
  obtain ⟨x, _, rfl⟩ := List.mem_map.1 hr
  exact cC_len x
theorem cCs_one (l : List Chg) : ∀ u ∈ (l.map cC).flatten, u.oneCell' = true := fun u hu => by
  obtain ⟨r, hr, hu⟩ := List.mem_flatten.1 hu
  obtain ⟨x, _, rfl⟩ := List.mem_map.1 hr
  exact cC_one x u hu
theorem CsV.own {base : Nat} (h : w.ownsRow base 252 4 v l.length (l.map cC).flatten) (hb : ∀ k, base ≤ k → ok k) : CsV w ok v l := by
  rcases h.2 with ⟨rfl, h0⟩ | ⟨g, c, cur, rfl, hg, hh, hnc, hm, hs, ht⟩
  · have : l = [] := by
      cases l with
      | nil => rfl
      | cons x r =>
        simp at h0
    subst this
    exact CsV.nil _ _
  · refine ⟨_, c, rfl, hnc, hm, fun j u hu => ⟨_, rfl, hb g hg, ?_⟩, .inr ⟨g, rfl⟩⟩
    rw [add_plain, Nat.zero_add, cell_of_row w g _ cur 252 (0, 0) hh]
    have h2 : (cur.toList.take (l.length * 4))[j]? = some u := by rw [ht]; exact hu
    rw [List.getElem?_take] at h2
    split at h2
    · simpa using h2
    · cases h2
theorem CsV.at_ {A : Option Addr} {n c : Nat} (h : CsV w ok (.slice A n c) l) {i : Nat} {x : Chg} (hi : l[i]? = some x) : ∃ g, A = some ⟨g, 0, none⟩ ∧ w.rangeAt g (i * 4) (cC x) := by
  obtain ⟨A', c', e1, h1, h2, h3, h4⟩ := h
  injection e1 with e1 _ _
  subst e1
  have hi' : (l.map cC)[i]? = some (cC x) := by rw [List.getElem?_map, hi]; rfl
  obtain ⟨u0, hu0⟩ : ∃ u, (cC x)[0]? = some u := by cases x <;> exact ⟨_, rfl⟩
  rcases h4 with h4 | ⟨g, h4⟩
  · obtain ⟨ad, e, _⟩ := h3 _ _ (flat_at (cCs_len l) hi' hu0)
    rw [h4] at e; cases e
  · refine ⟨g, h4, fun j u hu => ?_⟩
    obtain ⟨ad, e, _, hc⟩ := h3 _ _ (flat_at (cCs_len l) hi' hu)
    rw [h4] at e
    injection e with e
    subst e
    rw [add_plain, Nat.zero_add] at hc
    exact hc
end
end Go.Proofs.YtbcldknecdbemaaDoor

/-
  The reference's do.
-/
namespace Go.Proofs.YtbcldknecdbemaaDoor
open Go.RowKit
set_option linter.unusedVariables false
set_option maxRecDepth 20000

/-- The reference's disk in memory. -/
structure RDk (w : World) (ok : Nat → Prop) (sv lv wv : Value) (D : Dk) : Prop where
  seen : FsV w ok sv D.seen
  lasts : FsV w ok lv D.lasts
  waits : CsV w ok wv D.waits
section
variable {w w' : World} {ok ok' Q : Nat → Prop} {sv lv wv : Value} {D : Dk}
theorem RDk.later (h : RDk w ok sv lv wv D) (hg : Grows w w') : RDk w' ok sv lv wv D := ⟨h.seen.later hg, h.lasts.later hg, h.waits.later hg⟩
theorem RDk.turned (h : RDk w ok sv lv wv D) (ht : Turns Q w w') (hQ : ∀ k, ok k → ¬ Q k) : RDk w' ok sv lv wv D := ⟨h.seen.turned ht hQ, h.lasts.turned ht hQ, h.waits.turned ht hQ⟩
theorem RDk.mono (h : RDk w ok sv lv wv D) (hk : ∀ k, ok k → ok' k) : RDk w ok' sv lv wv D := ⟨h.seen.mono hk, h.lasts.mono hk, h.waits.mono hk⟩
theorem RDk.cut (h : RDk w ok sv lv wv D) : RDk w (fun k => ok k ∧ k < w.heap.size) sv lv wv D := ⟨h.seen.cut, h.lasts.cut, h.waits.cut⟩
end
theorem three_b (w : World) (A B C : List Value) (ta tb tc : TypeId) (w3 : World) (h : w3 = ((w.alloc (.cells A.toArray ta)).alloc (.cells B.toArray tb)).alloc (.cells C.toArray tc)) :
    Has w3 w.heap.size A ∧ Has w3 (w.heap.size + 1) B ∧ Has w3 (w.heap.size + 2) C ∧ Grows w w3 ∧ w3.heap.size = w.heap.size + 3 := by
  subst h
  have h1 := Has.new w ta A
  have h2 := Has.new (w.alloc (.cells A.toArray ta)) tb B
  have h3 := Has.new ((w.alloc (.cells A.toArray ta)).alloc (.cells B.toArray tb)) tc C
  rw [World.size_alloc] at h2
  rw [World.size_alloc, World.size_alloc] at h3
  refine ⟨(h1.later (grows_alloc _ _)).later (grows_alloc _ _), h2.later (grows_alloc _ _), h3, Grows.trans (grows_alloc _ _) (Grows.trans (grows_alloc _ _) (grows_alloc _ _)), by simp⟩
theorem c_info : (Tryd.prog.info? 252).map (fun i => (i.zero, i.size, i.bytes)) = some (some (.agg #[.int .i64 0, .string ⟨#[]⟩, .string ⟨#[]⟩, .string ⟨#[]⟩]), 4, 56) := by kernel_rfl
theorem d_size : (Tryd.prog.info? 89).map (·.size) = some 5 := by kernel_rfl
end Go.Proofs.YtbcldknecdbemaaDoor

/-
  The reference's New, Read, Write.
-/
namespace Go.Proofs.YtbcldknecdbemaaDoor
open Go.RowKit
set_option linter.unusedVariables false
set_option maxRecDepth 20000

theorem res_has_two {P : Program} {fn : Func} {p q b : Nat} {t : TypeId} {d : TypeDesc} {vs : List Value} {w : World} (h : fn.results = #[.cell p t, .tmp q]) (tmps : Array Value) (hp : tmps.getD p undef = .pointer (some ⟨b, 0, none⟩))
    (ht : P.underlying t = some d) (hd : d.isRow = true) (hi : (P.info? t).map (·.size) = some vs.length) (hb : Has w b vs) : (results fn tmps).run P w = .ok (.tuple #[.agg vs.toArray, tmps.getD q undef]) w := by
  have hp' : tmps[p]?.getD undef = .pointer (some ⟨b, 0, none⟩) := by simpa using hp
  simp [results, h, hp', asAddr, run_loadVar_mid w b 0 t vs d hb.cells ht hd hi]
theorem new_r (room : Int) (w : World) (ok : Nat → Prop) : Calls Tryd.prog 64 #[rv room] w fun e w' => e = .returned (dV (newD room) (.slice none 0 0) (.slice none 0 0) (.slice none 0 0)) ∧ RDk w' ok (.slice none 0 0) (.slice none 0 0) (.slice none 0 0) (newD room) ∧ Grows w w' := by
  go_enter Tryd.func64, Tryd.ntmps64
  go_wp2_with fail
  have hb := Has.new w 89 [rv room, .slice none 0 0, .slice none 0 0, .slice none 0 0, rv (-1)]
  refine bodyPost_ret (res_has (vs := [rv room, .slice none 0 0, .slice none 0 0, .slice none 0 0, rv (-1)]) rfl _ rfl Tryd.underlying89 rfl d_size hb) rfl ?_
  exact ⟨rfl, ⟨FsV.nil _ _, FsV.nil _ _, CsV.nil _ _⟩, grows_alloc _ _⟩
theorem two_b (w : World) (A B : List Value) (ta tb : TypeId) (w2 : World) (h : w2 = (w.alloc (.cells A.toArray ta)).alloc (.cells B.toArray tb)) :
    Has w2 w.heap.size A ∧ Has w2 (w.heap.size + 1) B ∧ Grows w w2 ∧ w2.heap.size = w.heap.size + 2 := by
  subst h
  have h1 := Has.new w ta A
  have h2 := Has.new (w.alloc (.cells A.toArray ta)) tb B
  rw [World.size_alloc] at h2
  exact ⟨h1.later (grows_alloc _ _), h2, Grows.trans (grows_alloc _ _) (grows_alloc _ _), by simp⟩
abbrev zeroD : List Value := [rv 0, .slice none 0 0, .slice none 0 0, .slice none 0 0, rv 0]
def dL (D : Dk) (sv lv wv : Value) : List Value := [rv D.room, sv, lv, wv, rv D.power]
theorem dL_one {w : World} {ok : Nat → Prop} {sv lv wv : Value} {D : Dk} (h : RDk w ok sv lv wv D) : ∀ u ∈ dL D sv lv wv, u.oneCell' = true := by
  obtain ⟨A1, c1, e1⟩ := h.seen.form
  obtain ⟨A2, c2, e2⟩ := h.lasts.form
  obtain ⟨A3, c3, e3⟩ := h.waits.form
  subst e1 e2 e3
  intro u hu
  simp [dL] at hu
  rcases hu with rfl | rfl | rfl | rfl | rfl <;> rfl
theorem wr_arith (us u0 yl dl : Nat) (room : Int) (h : us = u0 + yl) (hu : us + dl ≤ 1000000000) (hr : 0 ≤ room ∧ room ≤ 1048576) :
    wrap64 ((us : Int) + (dl : Int)) = (us : Int) + (dl : Int) ∧ wrap64 ((us : Int) + (dl : Int) - (yl : Int)) = (us : Int) + (dl : Int) - (yl : Int) ∧ (room < (us : Int) - (yl : Int) + (dl : Int) → decide ((us : Int) + (dl : Int) - (yl : Int) > room) = true) ∧ (¬ room < (us : Int) - (yl : Int) + (dl : Int) → decide ((us : Int) + (dl : Int) - (yl : Int) > room) = false) := by
  refine ⟨by unfold wrap64; omega, by unfold wrap64; omega, fun e => by simp; omega, fun e => by simp; omega⟩
end Go.Proofs.YtbcldknecdbemaaDoor

/-
  store: Put.
-/
namespace Go.Proofs.YtbcldknecdbemaaDoor
open Go.RowKit
set_option linter.unusedVariables false
set_option maxRecDepth 20000

theorem enter_plainS {P : Program} {q : FuncId} {fn : Func} (hf : P.funcs[q]? = some fn) (hn : (fn.name == "runtime.NumGoroutine") = false) (hb : fn.body.isNone = false) (args : Array Value) (w : World) : (callFunc q args).run P w = .ok (.enter q args) w := by
  have hn' : fn.name ≠ "runtime.NumGoroutine" := by simpa using hn
  have hb' : fn.body ≠ none := by intro h; rw [h] at hb; cases hb
  simp [callFunc, hf, hn', hb']
/-- What Put does, step by step. -/
def putF (nm b : Byts) : Nat → Dk → Dk × Int
  | 0 => fun D => writeD D (aheadB nm) (sealOf b)
  | 2 => fun D => renameD D (aheadB nm) (placeB nm)
  | _ => syncD
def putE (D : Dk) (nm b : Byts) : Nat → Dk × Int
  | 0 => (D, 0)
  | i + 1 => thenD (putE D nm b i) (putF nm b i)
theorem putE_four (D : Dk) (nm b : Byts) : putE D nm b 4 = putS D nm b := by
  unfold putS putE putE putE putE putE
  rw [then_ok]
  rfl
theorem putE_next {D : Dk} {nm b : Byts} {i : Nat} (h : (putE D nm b i).2 = 0) : putE D nm b (i + 1) = putF nm b i (putE D nm b i).1 := by
  show thenD _ _ = _
  unfold thenD; rw [if_pos h]
theorem putE_stop {D : Dk} {nm b : Byts} {i : Nat} (h : (putE D nm b i).2 ≠ 0) : ∀ k, putE D nm b (i + k) = putE D nm b i
  | 0 => rfl
  | k + 1 => by
    have ih := putE_stop h k
    show thenD (putE D nm b (i + k)) _ = _
    rw [ih]
    unfold thenD; rw [if_neg h]
structure PutW (D : Dk) (n : Nat) (E : Dk) (i : Nat) : Prop where
  wt : E.weight ≤ D.weight + n + 10
  wl : E.waits.length ≤ D.waits.length + i
  rm : E.room = D.room
  ok : E.Ok
theorem putF_w {D E : Dk} {nm b : Byts} {i : Nat} (hp : PutW D b.length E i) (hi : i < 4) (h0 : i = 0 → E = D) : PutW D b.length (putF nm b i E).1 (i + 1) := by
  have hsl := (seal_len b).1
  have h4 : i = 0 ∨ i = 1 ∨ i = 2 ∨ i = 3 := by omega
  rcases h4 with rfl | rfl | rfl | rfl
  · have := h0 rfl
    subst this
    have h1 := weight_write E (aheadB nm) (sealOf b)
    have h2 := waits_write E (aheadB nm) (sealOf b)
    exact ⟨by show (writeD _ _ _).1.weight ≤ _; omega, by show (writeD _ _ _).1.waits.length ≤ _; omega, room_write _ _ _, hp.ok.write _ _⟩
  · have h1 := weight_sync hp.ok
    have h2 := waits_sync E
    exact ⟨by have := hp.wt; show (syncD _).1.weight ≤ _; omega, by have := hp.wl; show (syncD _).1.waits.length ≤ _; omega, (room_sync _).trans hp.rm, hp.ok.sync⟩
  · have h1 := weight_rename E (aheadB nm) (placeB nm)
    have h2 := waits_rename E (aheadB nm) (placeB nm)
    exact ⟨by have := hp.wt; show (renameD _ _ _).1.weight ≤ _; omega, by have := hp.wl; show (renameD _ _ _).1.waits.length ≤ _; omega, (room_rename _ _ _).trans hp.rm, hp.ok.rename _ _⟩
  · have h1 := weight_sync hp.ok
    have h2 := waits_sync E
    exact ⟨by have := hp.wt; show (syncD _).1.weight ≤ _; omega, by have := hp.wl; show (syncD _).1.waits.length ≤ _; omega, (room_sync _).trans hp.rm, hp.ok.sync⟩
def pq : Nat → FuncId
  | 0 => 67
  | 2 => 71
  | _ => 70
def pfi (a : Nat) : Nat → Array Value
  | 0 => #[]
  | 2 => #[]
  | _ => #[.pointer (some ⟨a, 0, none⟩)]
def pca (B2 B7 B3 B6 : Nat) : Nat → Array Value
  | 0 => #[.pointer (some ⟨B2, 0, none⟩), .pointer (some ⟨B7, 0, none⟩), .pointer (some ⟨B3, 0, none⟩)]
  | 2 => #[.pointer (some ⟨B2, 0, none⟩), .pointer (some ⟨B7, 0, none⟩), .pointer (some ⟨B6, 0, none⟩)]
  | _ => #[]
def psteps (a B2 B7 B3 B6 : Nat) : List Value := [.func (.func 67) #[] (pca B2 B7 B3 B6 0), .func (.func 70) #[.pointer (some ⟨a, 0, none⟩)] #[], .func (.func 71) #[] (pca B2 B7 B3 B6 2), .func (.func 70) #[.pointer (some ⟨a, 0, none⟩)] #[]]
theorem pq_enters (a B2 B7 B3 B6 i : Nat) (hi : i < 4) (w : World) : (callFunc (pq i) (pfi a i ++ pca B2 B7 B3 B6 i)).run Tryd.prog w = .ok (.enter (pq i) (pfi a i ++ pca B2 B7 B3 B6 i)) w := by
  have h4 : i = 0 ∨ i = 1 ∨ i = 2 ∨ i = 3 := by omega
  rcases h4 with rfl | rfl | rfl | rfl
  · exact enter_plainS Tryd.func67 (by kernel_rfl) (by kernel_rfl) _ w
  · exact enter_plainS Tryd.func70 (by kernel_rfl) (by kernel_rfl) _ w
  · exact enter_plainS Tryd.func71 (by kernel_rfl) (by kernel_rfl) _ w
  · exact enter_plainS Tryd.func70 (by kernel_rfl) (by kernel_rfl) _ w

/-- What is done one behind the other. -/
theorem puts_any (a m : Nat) (X : Nat → Prop) (D : Dk) (w : World) (B2 B7 B3 B6 S : Nat) (A : Option Addr) (n c : Nat) (b nm : Byts) (hd : Dsk w a m X D) (hX : ∀ k, X k → k < w.heap.size)
    (h2 : Has w B2 [.pointer (some ⟨a, 0, none⟩)]) (h7 : Has w B7 [tv (aheadB nm)]) (h3 : Has w B3 [.slice A n c]) (h6 : Has w B6 (nm.map bv)) (hS : Has w S (psteps a B2 B7 B3 B6))
    (x2 : X B2) (x7 : X B7) (x3 : X B3) (x6 : X B6) (xS : X S) (hl : b.length = n) (hr : LiesIn (fun k => k < w.heap.size ∧ ¬ (m ≤ k ∧ ¬ X k)) w A (b.map bv)) (hc : n ≤ c) (hn : n ≤ 100000) (hnm : nm.length = 32)
    (hW : D.weight ≤ 90000000) (hw : D.waits.length ≤ 100000) (hro : 0 ≤ D.room ∧ D.room ≤ 1048576) :
    Calls Tryd.prog 66 #[.slice (some ⟨S, 0, none⟩) 4 4] w fun e w' => e = .returned (rv (putS D nm b).2) ∧ Dsk w' a m X (putS D nm b).1 ∧ Turns (fun k => m ≤ k ∧ ¬ X k) w w' := by
  subst hl
  have HS : ∀ i, i < 4 → ∀ u, ((putE D nm b i).2 = 0 ∧ Dsk u a m X (putE D nm b i).1 ∧ Turns (fun k => m ≤ k ∧ ¬ X k) w u ∧ PutW D b.length (putE D nm b i).1 i) →
      Calls Tryd.prog (pq i) (pfi a i ++ pca B2 B7 B3 B6 i) u fun e w' => ∃ er : Int, e = .returned (rv er) ∧ (er = 0 → ((putE D nm b (i + 1)).2 = 0 ∧ Dsk w' a m X (putE D nm b (i + 1)).1 ∧ Turns (fun k => m ≤ k ∧ ¬ X k) w w' ∧ PutW D b.length (putE D nm b (i + 1)).1 (i + 1))) ∧
        (er ≠ 0 → (er = (putS D nm b).2 ∧ Dsk w' a m X (putS D nm b).1 ∧ Turns (fun k => m ≤ k ∧ ¬ X k) w w')) := by
    rintro i hi u ⟨h0, du, tu, pu⟩
    have hne := putE_next (D := D) (nm := nm) (b := b) h0
    have hwn := putF_w (nm := nm) pu hi (fun h => by subst h; rfl)
    rw [← hne] at hwn
    have key : ∀ (e : Ending) (w' : World), (e = .returned (rv (putF nm b i (putE D nm b i).1).2) ∧ Dsk w' a m X (putF nm b i (putE D nm b i).1).1 ∧ Turns (fun k => m ≤ k ∧ ¬ X k) u w') → ∃ er : Int, e = .returned (rv er) ∧ (er = 0 → ((putE D nm b (i + 1)).2 = 0 ∧ Dsk w' a m X (putE D nm b (i + 1)).1 ∧ Turns (fun k => m ≤ k ∧ ¬ X k) w w' ∧ PutW D b.length (putE D nm b (i + 1)).1 (i + 1))) ∧
        (er ≠ 0 → (er = (putS D nm b).2 ∧ Dsk w' a m X (putS D nm b).1 ∧ Turns (fun k => m ≤ k ∧ ¬ X k) w w')) := by
      rintro e w' ⟨rfl, d', t'⟩
      rw [← hne] at d' ⊢
      refine ⟨_, rfl, fun h => ⟨h, d', tu.trans t', hwn⟩, fun h => ?_⟩
      have hst := putE_stop h (3 - i)
      rw [show i + 1 + (3 - i) = 4 by omega, putE_four] at hst
      rw [hst]
      exact ⟨rfl, d', tu.trans t'⟩
    have hXu : ∀ k, X k → k < u.heap.size := fun k hk => Nat.lt_of_lt_of_le (hX k hk) tu.size
    have b2 := h2.turned tu (fun e => e.2 x2)
    have b7 := h7.turned tu (fun e => e.2 x7)
    have b3 := h3.turned tu (fun e => e.2 x3)
    have b6 := h6.turned tu (fun e => e.2 x6)
    have hru : Lies u u.heap.size A (b.map bv) := fun j v hv => by
      obtain ⟨ad, e, h1, h2⟩ := hr j v hv
      exact ⟨ad, e, Nat.lt_of_lt_of_le h1.1 tu.size, tu.cell h2 (by rw [add_block]; exact h1.2)⟩
    have p1 := pu.wt
    have p2 := pu.wl
    have p3 := pu.rm
    have h4 : i = 0 ∨ i = 1 ∨ i = 2 ∨ i = 3 := by omega
    rcases h4 with rfl | rfl | rfl | rfl
    · exact (put1_any a m X _ u B2 B7 B3 A b.length c b (aheadB nm) du hXu b2 b7 b3 x2 x7 x3 rfl hru hc (by omega) (by show D.weight + _ + _ ≤ _; omega) (by omega) (by rw [p3]; exact hro)).mono key
    · exact (sync_d a m X _ u du hXu (by omega) (by omega)).mono key
    · exact (put2_any a m X _ u B2 B7 B6 nm (aheadB nm) du hXu b2 b7 b6 x2 x7 x6 hnm (by rw [ahead_len hnm]; omega) (by omega) (by omega)).mono key
    · exact (sync_d a m X _ u du hXu (by omega) (by omega)).mono key
  refine (inturn_any 4 (some ⟨S, 0, none⟩) 4 pq (pfi a) (pca B2 B7 B3 B6) (fun i hi w => pq_enters a B2 B7 B3 B6 i hi w)
    (fun i u => (putE D nm b i).2 = 0 ∧ Dsk u a m X (putE D nm b i).1 ∧ Turns (fun k => m ≤ k ∧ ¬ X k) w u ∧ PutW D b.length (putE D nm b i).1 i)
    (fun er u => er = (putS D nm b).2 ∧ Dsk u a m X (putS D nm b).1 ∧ Turns (fun k => m ≤ k ∧ ¬ X k) w u)
    (fun i hi u hj => ⟨_, rfl, by
      have hs := (hS.turned hj.2.2.1 (fun e => e.2 xS))
      rw [add_plain, Nat.zero_add]
      have h4 : i = 0 ∨ i = 1 ∨ i = 2 ∨ i = 3 := by omega
      rcases h4 with rfl | rfl | rfl | rfl
      · exact hs.cell (k := 0) rfl
      · exact hs.cell (k := 1) rfl
      · exact hs.cell (k := 2) rfl
      · exact hs.cell (k := 3) rfl⟩) HS w (by omega) ⟨rfl, hd, Turns.refl _ _, ⟨by show D.weight ≤ _; omega, Nat.le_refl _, rfl, hd.ok⟩⟩).mono ?_
  rintro e w' ⟨er, rfl, h1, h2⟩
  by_cases h : er = 0
  · obtain ⟨q0, q1, q2, _⟩ := h1 h
    rw [putE_four] at q0 q1
    exact ⟨by rw [h, q0], q1, q2⟩
  · obtain ⟨q0, q1, q2⟩ := h2 h
    exact ⟨by rw [q0], q1, q2⟩
end Go.Proofs.YtbcldknecdbemaaDoor

/-
  What disk tells, as a row of one's own (of L12B).
-/
namespace Go.Proofs.YtbcldknecdbemaaDoor
open Go.RowKit
set_option linter.unusedVariables false
set_option maxRecDepth 20000

theorem fresh_own {w0 w : World} {base n : Nat} {v : Value} {l : Byts} (h : w.ownsRow base 5 1 v n (l.map bv)) (hb : w0.heap.size ≤ base) : Fresh w0 w v l := by
  have hl : l.length = n := by have := h.1; simpa using this
  subst hl
  rcases h.2 with ⟨rfl, h0⟩ | ⟨g, c, cur, rfl, hg, hh, hnc, hm, hs, ht⟩
  · exact .inl ⟨rfl, by simpa using h0⟩
  · have hc : ∀ j u, (l.map bv)[j]? = some u → w.cell? ⟨g, j, none⟩ = some u := fun j u hu => by
      have hj : j < l.length := by have := (List.getElem?_eq_some_iff.1 hu).1; simpa using this
      have := (Lies.of_own h) j u hu
      obtain ⟨ad, e, _, hcl⟩ := this
      injection e with e
      rw [← e, add_plain, Nat.zero_add] at hcl
      exact hcl
    exact .inr ⟨g, c, rfl, hnc, hm, by omega, hc, fun j hj => by simp [World.frozen?, hh]⟩
theorem Fresh.set {w0 w : World} {g c : Nat} {l : Byts} (h : Fresh w0 w (.slice (some ⟨g, 0, none⟩) l.length c) l) {k : Nat} (hk : k < l.length) (z : UInt8) : Fresh w0 (w.setCell ⟨g, k, none⟩ (bv z)) (.slice (some ⟨g, 0, none⟩) l.length c) (l.set k z) := by
  rcases h with ⟨e, rfl⟩ | ⟨g', c', e, h1, h2, h3, h4, h5⟩
  · simp at hk
  · injection e with e1 _ e3
    injection e1 with e1
    injection e1 with e1
    subst e1 e3
    refine .inr ⟨g, c, by rw [List.length_set], by rw [List.length_set]; exact h1, h2, h3, fun j u hu => ?_, fun j hj => ?_⟩
    · rw [List.map_set] at hu
      have hj : j < l.length := by have := (List.getElem?_eq_some_iff.1 hu).1; simpa using this
      have hc := h4 j _ (List.getElem?_eq_getElem (by simpa using hj))
      by_cases hjk : k = j
      · subst hjk
        rw [List.getElem?_set_self (by simpa using hk)] at hu
        injection hu with hu
        subst hu
        exact World.cell?_setCell_same w _ _ hc
      · rw [List.getElem?_set_ne hjk, List.getElem?_eq_getElem (by simpa using hj)] at hu
        injection hu with hu
        subst hu
        rw [World.cell?_setCell_other w _ _ _ (by intro e; injection e with _ e; exact hjk e)]
        exact hc
    · rw [World.frozen?_setCell]
      exact h5 j (by simpa using hj)
theorem Fresh.at_ {w0 w : World} {v : Value} {l : Byts} (h : Fresh w0 w v l) {k : Nat} (hk : k < l.length) : ∃ g c x, v = .slice (some ⟨g, 0, none⟩) l.length c ∧ w0.heap.size ≤ g ∧ g < w.heap.size ∧ l[k]? = some x ∧ w.cell? ⟨g, k, none⟩ = some (bv x) ∧ w.frozen? ⟨g, k, none⟩ = false := by
  rcases h with ⟨rfl, rfl⟩ | ⟨g, c, rfl, h1, h2, h3, h4, h5⟩
  · simp at hk
  · have hx := h4 k (bv l[k]) (by rw [List.getElem?_map, List.getElem?_eq_getElem hk]; rfl)
    exact ⟨g, c, l[k], rfl, h3, World.block_lt_of_cell? w _ hx, List.getElem?_eq_getElem hk, hx, h5 k hk⟩
theorem Fresh.form {w0 w : World} {v : Value} {l : Byts} (h : Fresh w0 w v l) : ∃ A c, v = .slice A l.length c := by
  rcases h with ⟨rfl, rfl⟩ | ⟨g, c, rfl, _⟩
  · exact ⟨none, 0, rfl⟩
  · exact ⟨_, _, rfl⟩
set_option maxHeartbeats 400000 in
theorem short_any (l : List UInt8) (m : Nat) (w : World) (hm : m ≤ 1000000) :
    Calls Tryd.prog 47 #[tv l, .int .i64 (m : Int)] w fun e w' => e = .returned (tv (l.take m)) ∧ Grows w w' := by
  have hsz := size_mk l
  by_cases h : m < l.length
  · have h' : (m : Int) < (l.length : Int) := by omega
    have ct : ∀ u, (Instr.slice 9 (tv l) none (some (.int .i64 (m : Int))) none).run Tryd.prog u = .ok (tv (l.take m)) u := fun u => by
      rw [run_slice_string_to_if u 9 _ .i64 (m : Int) Tryd.underlying9, if_pos ⟨by omega, by rw [size_mk]; omega⟩, tcut]
      rfl
    generalize l.take m = R at *
    go_enter Tryd.func47, Tryd.ntmps47
    go_wp2
    go_ret
    exact ⟨rfl, Grows.refl _⟩
  · have h' : ¬ (m : Int) < (l.length : Int) := by omega
    rw [List.take_of_length_le (by omega)]
    go_enter Tryd.func47, Tryd.ntmps47
    go_wp2
    go_ret
    exact ⟨rfl, Grows.refl _⟩

end Go.Proofs.YtbcldknecdbemaaDoor
