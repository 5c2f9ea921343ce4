/-
  Contracts, joined (LiN DkB DkC DkD DkE DkF PaC DkG DkH DkI DkJ DkK DkL).
-/
import Derived.Test.YtbcldknecdbemaaDoorP11
import Derived.Test.YtbcldknecdbemaaDoorP2
import Derived.Deep.RegionWith
import Derived.Deep.QuietTactic
import Derived.BigQuiet
import Derived.Maps.RangeWalk
import Derived.Lib.SlBytesConst
import Derived.Lib.SmallJoins

/-
  Values that lie in blocks of which something is known (of no program).
-/
namespace Go.Proofs.YtbcldknecdbemaaDoor
open Go.RowKit
set_option linter.unusedVariables false
set_option maxRecDepth 20000

theorem cutA_lies {w : World} {B : Nat} {A : Option Addr} {vs : List Value} (h : Lies w B A vs) {c m : Nat} (hc : vs.length ≤ c) : Lies w B (cutA A c m 1) (vs.drop m) := by
  unfold cutA
  by_cases hcm : c = m
  · rw [if_pos hcm, List.drop_eq_nil_of_le (by omega)]; exact Lies.empty
  · rw [if_neg hcm, Nat.mul_one]; exact h.from_ m
/-- Values lie in blocks that are ok. -/
def LiesIn (ok : Nat → Prop) (w : World) (A : Option Addr) (vs : List Value) : Prop := ∀ (j : Nat) (u : Value), vs[j]? = some u → ∃ ad : Addr, A = some ad ∧ ok ad.block ∧ w.cell? (ad.add j) = some u
section
variable {ok S : Nat → Prop} {w w' : World} {A : Option Addr} {vs : List Value}
theorem LiesIn.lies (h : LiesIn ok w A vs) {B : Nat} (hB : ∀ k, ok k → k < B) : Lies w B A vs := fun j u hu => let ⟨ad, e, ho, hc⟩ := h j u hu; ⟨ad, e, hB _ ho, hc⟩
theorem LiesIn.of_lies {B : Nat} (h : Lies w B A vs) (hB : ∀ k, k < B → ok k) : LiesIn ok w A vs := fun j u hu => let ⟨ad, e, ho, hc⟩ := h j u hu; ⟨ad, e, hB _ ho, hc⟩
theorem LiesIn.turned (h : LiesIn ok w A vs) (ht : Turns S w w') (hS : ∀ k, ok k → ¬ S k) : LiesIn ok w' A vs := fun j u hu => let ⟨ad, e, ho, hc⟩ := h j u hu; ⟨ad, e, ho, ht.cell hc (by rw [add_block]; exact hS _ ho)⟩
theorem LiesIn.later (h : LiesIn ok w A vs) (hg : Grows w w') : LiesIn ok w' A vs := fun j u hu => let ⟨ad, e, ho, hc⟩ := h j u hu; ⟨ad, e, ho, hcell_later hc hg⟩
theorem LiesIn.take (h : LiesIn ok w A vs) (k : Nat) : LiesIn ok w A (vs.take k) := fun j u hu => h j u (by
  have := (List.getElem?_eq_some_iff.1 hu).1
  rw [List.length_take] at this
  rwa [List.getElem?_take_of_lt (by omega)] at hu)
theorem LiesIn.cutA (h : LiesIn ok w A vs) {c m : Nat} (hc : vs.length ≤ c) : LiesIn ok w (cutA A c m 1) (vs.drop m) := by
  unfold Go.Proofs.YtbcldknecdbemaaDoor.cutA
  by_cases hcm : c = m
  · rw [if_pos hcm, List.drop_eq_nil_of_le (by omega)]; exact fun j u hu => by simp at hu
  · rw [if_neg hcm, Nat.mul_one]
    intro j u hu
    rw [List.getElem?_drop] at hu
    obtain ⟨ad, rfl, ho, hcl⟩ := h _ u hu
    exact ⟨ad.add m, rfl, by rw [add_block]; exact ho, by rw [add_add_addr]; exact hcl⟩
theorem LiesIn.of_own {base : Nat} {e : TypeId} {n c : Nat} (h : w.ownsRow base e 1 (.slice A n c) n vs) : LiesIn (fun k => base ≤ k ∧ k < w.heap.size) w A vs := fun j u hu => by
  obtain ⟨ad, e1, h1, h2⟩ := Lies.of_own h j u hu
  have hn : 0 < n := by
    have h3 := (List.getElem?_eq_some_iff.1 hu).1
    have h4 := h.1
    omega
  obtain ⟨g, c', e2, _, _, h5, _⟩ := own_has h hn
  subst e1
  injection e2 with e2
  injection e2 with e2
  subst e2
  exact ⟨_, rfl, ⟨h5, h1⟩, h2⟩
end
end Go.Proofs.YtbcldknecdbemaaDoor

/-
  disk's own: take: a change is made.
-/
namespace Go.Proofs.YtbcldknecdbemaaDoor
open Go.RowKit
set_option linter.unusedVariables false
set_option maxRecDepth 20000

/-- A change as a value of the interface. -/
def cv : Chg → Value
  | .wr p d => .iface 144 (.agg #[tv p, tv d])
  | .rn p q => .iface 150 (.agg #[tv p, tv q])
  | .rm p => .iface 190 (.agg #[tv p])
/-- disk.always, as a value. -/
abbrev alwaysV : Value := .func (.func 99) #[] #[]

theorem as_ww (v : Value) (w : World) : (Instr.typeAssert (.iface 144 v) 147 144 true).run Tryd.prog w = .ok (.tuple #[v, .bool true]) w := by kernel_rfl
theorem as_nw (v : Value) (w : World) : (Instr.typeAssert (.iface 150 v) 147 144 true).run Tryd.prog w = .ok (.tuple #[.agg #[tv [], tv []], .bool false]) w := by kernel_rfl
theorem as_mw (v : Value) (w : World) : (Instr.typeAssert (.iface 190 v) 147 144 true).run Tryd.prog w = .ok (.tuple #[.agg #[tv [], tv []], .bool false]) w := by kernel_rfl
theorem as_nn (v : Value) (w : World) : (Instr.typeAssert (.iface 150 v) 147 150 true).run Tryd.prog w = .ok (.tuple #[v, .bool true]) w := by kernel_rfl
theorem as_mn (v : Value) (w : World) : (Instr.typeAssert (.iface 190 v) 147 150 true).run Tryd.prog w = .ok (.tuple #[.agg #[tv [], tv []], .bool false]) w := by kernel_rfl
theorem as_mm (v : Value) (w : World) : (Instr.typeAssert (.iface 190 v) 147 190 true).run Tryd.prog w = .ok (.tuple #[v, .bool true]) w := by kernel_rfl

section
variable (a o b : Nat) (S : Fls) (vs : List Value) (w : World)
set_option maxHeartbeats 1000000 in
theorem take_rm (fv : Value) (p : Byts) (h : FAt w a o b S vs) (hu : fUsed S ≤ 1000000000) : Calls Tryd.prog 98 #[.pointer (some ⟨a, o, none⟩), cv (.rm p), fv] w fun e w' => e = .returned (.tuple #[]) ∧
    FAt w' a o b (mkF S (.rm p)) (vs.set (o + 1) (.int .i64 (fUsed (mkF S (.rm p)) : Int))) ∧ Turns (AB a b) w w' := by
  have hD := fun u (hu' : Grows w u) => fdrop_any a o b S vs p u (h.later hu') hu
  have q1 := as_mw; have q2 := as_mn; have q3 := as_mm
  unfold cv
  show Calls _ _ _ _ fun e w' => _ ∧ FAt w' a o b (fDel S p) _ ∧ _
  go_enter Tryd.func98, Tryd.ntmps98
  go_wp2_with fail
  refine (hD _ (grows_alloc _ _)).mono ?_
  rintro e w1 ⟨rfl, h1, t1⟩
  go_wp2_with fail
  go_end0
  exact ⟨rfl, h1, (Turns.of_grows (grows_alloc _ _)).trans t1⟩
theorem fself {w : World} {a o b : Nat} {S : Fls} {vs : List Value} (h : FAt w a o b S vs) : vs.set (o + 1) (.int .i64 (fUsed S : Int)) = vs := by
  apply List.ext_getElem?
  intro i
  by_cases hi : o + 1 = i
  · subst hi; rw [List.getElem?_set_self h.below, h.used]
  · rw [List.getElem?_set_ne hi]
set_option maxHeartbeats 1000000 in
theorem take_rn (fv : Value) (p q : Byts) (h : FAt w a o b S vs) (hu : fUsed S ≤ 1000000000) : Calls Tryd.prog 98 #[.pointer (some ⟨a, o, none⟩), cv (.rn p q), fv] w fun e w' => e = .returned (.tuple #[]) ∧
    FAt w' a o b (mkF S (.rn p q)) (vs.set (o + 1) (.int .i64 (fUsed (mkF S (.rn p q)) : Int))) ∧ Turns (AB a b) w w' := by
  have hD := fun u (hu' : Grows w u) => fdrop_any a o b S vs p u (h.later hu') hu
  have hH := fun u (hu' : Grows w u) => fhas_any a o b S vs p u (h.later hu')
  have q1 := as_nw; have q2 := as_nn
  have hue := used_del h.files.nodup p
  rw [show cv (.rn p q) = .iface 150 (.agg #[tv p, tv q]) from rfl]
  have hself := fself h
  cases hg : fGet S p with
  | none =>
    rw [show mkF S (.rn p q) = S by simp [mkF, hg], hself]
    rw [hg] at hH
    simp only [Option.isSome_none] at hH
    clear hue hg hD hself
    go_enter Tryd.func98, Tryd.ntmps98
    go_wp2_with fail
    refine (hH _ (grows_alloc _ _)).mono ?_
    rintro e w1 ⟨rfl, rfl⟩
    go_wp2_with fail
    go_end0
    exact ⟨rfl, h.later (grows_alloc _ _), Turns.of_grows (grows_alloc _ _)⟩
  | some d =>
    rw [hg] at hH hue
    simp only [Option.isSome_some] at hH
    have hgu : ∀ u, Grows w u → (Instr.lookup 115 (.map (some b)) (tv p) false).run Tryd.prog u = .ok (tv d) u := fun u hu => by
      have := get_any b S p u (h.files.later hu) false
      rw [hg] at this
      simpa using this
    rw [show mkF S (.rn p q) = fPut (fDel S p) q d by simp [mkF, hg]]
    simp only [Option.getD_some] at hue
    have HU := Lib.hid hue
    have hbox := Has.new w 150 [tv p, tv q]
    have hga := grows_alloc w (.cells [tv p, tv q].toArray 150)
    clear hue hg hself
    go_enter Tryd.func98, Tryd.ntmps98
    go_wp2_with fail
    refine (hH _ hga).mono ?_
    rintro e w1 ⟨rfl, rfl⟩
    go_wp2_with fail
    change Code.wp _ _ _ _ (w.alloc (.cells [tv p, tv q].toArray 150))
    have hlt := h.has.lt
    have hltb := h.files.lt
    generalize w.alloc (.cells [tv p, tv q].toArray 150) = w1 at *
    generalize w.heap.size = B at *
    have c0 : ∀ u, Grows w1.drew u → u.cell? ⟨a, o, none⟩ = some (.map (some b)) := fun u hu => (h.has.later (Grows.trans hga (Grows.trans (Grows.refl w1).drew hu))).cell h.map
    have c1 : ∀ u, Grows w1.drew u → u.cell? ⟨B, 0, none⟩ = some (tv p) := fun u hu => (hbox.later (Grows.trans (Grows.refl w1).drew hu)).cell rfl
    have hg2 : ∀ u, Grows w1.drew u → (Instr.lookup 115 (.map (some b)) (tv p) false).run Tryd.prog u = .ok (tv d) u := fun u hu => hgu u (Grows.trans hga (Grows.trans (Grows.refl w1).drew hu))
    have hgd := (Grows.refl w1).drew
    refine wp_region_ord 8 [(0, true), (1, true), (2, true), (3, true), (4, true), (5, true), (6, true), (7, true)] (by kernel_rfl) (by kernel_rfl) ?_
    have hO := Grows.refl w1.drew
    generalize hwd : w1.drew = wd at *
    clear hwd
    repeat (first | (refine ord_take hO _ ?_ (by simp only [List.getElem?_cons_succ, List.getElem?_cons_zero]; rfl) (by rfl) ?_ ?_; rotate_left; (· (intro u hu0 hu; (try go_simp); (try with_reducible rfl))); try simp only [Act.put, List.setIfInBounds_toArray, List.set_cons_zero, List.set_cons_succ]) | (refine ord_skip _ (by simp only [List.getElem?_cons_succ, List.getElem?_cons_zero]; rfl) (by rfl) ?_; try simp only [Act.put, List.setIfInBounds_toArray, List.set_cons_zero, List.set_cons_succ]))
    refine ord_done (fun u hu1 => ?_); simp only [List.drop_succ_cons, List.drop_zero]
    have hgw : Grows w u := Grows.trans hga (Grows.trans hgd hu1)
    have hbu := hbox.later (Grows.trans hgd hu1)
    have cp := hbu.cell (k := 0) rfl
    have cq := hbu.cell (k := 1) rfl
    clear c0 c1 hg2
    go_wp2_with fail
    refine NoPanic.normal ?_
    go_wp2_with fail
    refine (hD u hgw).mono ?_
    rintro e w2 ⟨rfl, h2, t2⟩
    have hb2 := hbu.turned t2 (fun e => e.elim (fun e => by omega) (fun e => by omega))
    have cq2 := hb2.cell (k := 1) rfl
    have hP := fput_any a o b (fDel S p) _ q w2 d h2 (by have := HU.out; omega)
    rw [set_set1] at hP
    go_wp2_with fail
    refine hP.mono ?_
    rintro e w3 ⟨rfl, h3, t3⟩
    go_wp2_with fail
    go_end0
    exact ⟨rfl, h3, (Turns.of_grows hgw).trans (t2.trans t3)⟩
set_option maxHeartbeats 1000000 in
theorem take_wr (p d : Byts) (h : FAt w a o b S vs) (hu : fUsed S + d.length ≤ 1000000000) : Calls Tryd.prog 98 #[.pointer (some ⟨a, o, none⟩), cv (.wr p d), alwaysV] w fun e w' => e = .returned (.tuple #[]) ∧
    FAt w' a o b (mkF S (.wr p d)) (vs.set (o + 1) (.int .i64 (fUsed (mkF S (.wr p d)) : Int))) ∧ Turns (AB a b) w w' := by
  have hP := fun u (hu' : Grows w u) => fput_any a o b S vs p u d (h.later hu') hu
  have q1 := as_ww
  have hA := always_any
  rw [show cv (.wr p d) = .iface 144 (.agg #[tv p, tv d]) from rfl, show mkF S (.wr p d) = fPut S p d from rfl]
  unfold alwaysV
  have hga := grows_alloc w (.cells [tv p, tv d].toArray 144)
  have hbox := Has.new w 144 [tv p, tv d]
  go_enter Tryd.func98, Tryd.ntmps98
  go_wp2_with fail
  refine (hA _).mono ?_
  rintro e w1 ⟨rfl, rfl⟩
  go_wp2_with fail
  refine (hP _ hga).mono ?_
  rintro e w3 ⟨rfl, h3, t3⟩
  go_wp2_with fail
  go_end0
  exact ⟨rfl, h3, (Turns.of_grows hga).trans t3⟩
end

/-- Bits that are told one by one: what is left of them lies in box k. -/
def Bits (w : World) (k : Nat) (ok : Nat → Prop) (ks : List Bool) : Prop := ∃ A n c, Has w k [.slice A n c] ∧ ks.length = n ∧ n ≤ c ∧ LiesIn ok w A (ks.map .bool)
theorem Bits.turned {w w' : World} {k : Nat} {ok Q : Nat → Prop} {ks : List Bool} (h : Bits w k ok ks) (ht : Turns Q w w') (h1 : ¬ Q k) (h2 : ∀ i, ok i → ¬ Q i) : Bits w' k ok ks := by
  obtain ⟨A, n, c, a1, a2, a3, a4⟩ := h
  exact ⟨A, n, c, a1.turned ht h1, a2, a3, a4.turned ht h2⟩
theorem Bits.later {w w' : World} {k : Nat} {ok : Nat → Prop} {ks : List Bool} (h : Bits w k ok ks) (hg : Grows w w') : Bits w' k ok ks := by
  obtain ⟨A, n, c, a1, a2, a3, a4⟩ := h
  exact ⟨A, n, c, a1.later hg, a2, a3, a4.later hg⟩
theorem bool_size : (Tryd.prog.info? 4).map (·.size) = some 1 := by kernel_rfl
end Go.Proofs.YtbcldknecdbemaaDoor

/-
  disk's own: a write that is made by what the bits tell; spend, do, Up.
-/
namespace Go.Proofs.YtbcldknecdbemaaDoor
open Go.RowKit
set_option linter.unusedVariables false
set_option maxRecDepth 20000

/-- The three blocks. -/
def ABK (a b k : Nat) (i : Nat) : Prop := i = a ∨ i = b ∨ i = k
section
variable (a o b k : Nat) (S : Fls) (vs : List Value) (w : World) (ok : Nat → Prop) (ks : List Bool)
end
end Go.Proofs.YtbcldknecdbemaaDoor

/-
  disk: a disk in memory; Up, Used, Waits, Power, spend, do.
-/
namespace Go.Proofs.YtbcldknecdbemaaDoor
open Go.RowKit
set_option linter.unusedVariables false
set_option maxRecDepth 20000

def dcells (D : Dk) (x : Int) (bs bl : Nat) (v : Value) : List Value := [.int .i64 D.room, .int .i64 x, .map (some bs), .int .i64 (fUsed D.seen : Int), .map (some bl), .int .i64 (fUsed D.lasts : Int), v]
/-- The disk D lies at block a; its maps in bs and bl, what waits in v. -/
structure DiskX (w : World) (a bs bl : Nat) (v : Value) (x : Int) (D : Dk) : Prop where
  has : Has w a (dcells D x bs bl v)
  pow : max x (-1) = D.power
  lo : -9223372036854775808 ≤ x
  hi : x ≤ 9223372036854775807
  seen : Files w bs D.seen
  lasts : Files w bl D.lasts
  row : w.ownsRow 0 147 1 v D.waits.length (D.waits.map cv)
  ne1 : a ≠ bs
  ne2 : a ≠ bl
  ne3 : bs ≠ bl
  nv : ∀ g, v.ownBlock = some g → g ≠ a ∧ g ≠ bs ∧ g ≠ bl
  ok : D.Ok
/-- A disk's blocks. -/
def Foot (a bs bl : Nat) (v : Value) (k : Nat) : Prop := k = a ∨ k = bs ∨ k = bl ∨ v.ownBlock = some k
section
variable {w w' : World} {a bs bl : Nat} {v : Value} {x : Int} {D : Dk} {Q : Nat → Prop}
theorem DiskX.turned (h : DiskX w a bs bl v x D) (ht : Turns Q w w') (hn : ∀ k, Foot a bs bl v k → ¬ Q k) : DiskX w' a bs bl v x D :=
  ⟨h.has.turned ht (hn a (.inl rfl)), h.pow, h.lo, h.hi, h.seen.turned ht (hn _ (.inr (.inl rfl))), h.lasts.turned ht (hn _ (.inr (.inr (.inl rfl)))),
    own_turned h.row ht (fun g hg => hn g (.inr (.inr (.inr hg)))), h.ne1, h.ne2, h.ne3, h.nv, h.ok⟩
theorem DiskX.later (h : DiskX w a bs bl v x D) (hg : Grows w w') : DiskX w' a bs bl v x D := h.turned (Q := fun _ => False) (Turns.of_grows hg) (fun _ _ e => e)
theorem own_lt {base : Nat} {e : TypeId} {n : Nat} {xs : List Value} (h : w.ownsRow base e 1 v n xs) {g : Nat} (hg : v.ownBlock = some g) : g < w.heap.size := by
  rcases h.2 with ⟨rfl, _⟩ | ⟨g', cap, cur, rfl, _, hb, _⟩
  · simp [Value.ownBlock] at hg
  · obtain rfl : g' = g := by simpa [Value.ownBlock] using hg
    exact (Array.getElem?_eq_some_iff.1 hb).1
theorem DiskX.lt (h : DiskX w a bs bl v x D) : ∀ k, Foot a bs bl v k → k < w.heap.size := by
  rintro k (rfl | rfl | rfl | hk)
  · exact h.has.lt
  · exact h.seen.lt
  · exact h.lasts.lt
  · exact own_lt h.row hk
theorem DiskX.fs (h : DiskX w a bs bl v x D) : FAt w a 2 bs D.seen (dcells D x bs bl v) := ⟨h.has, rfl, rfl, h.seen, h.ne1⟩
theorem DiskX.fl (h : DiskX w a bs bl v x D) : FAt w a 4 bl D.lasts (dcells D x bs bl v) := ⟨h.has, rfl, rfl, h.lasts, h.ne2⟩
theorem DiskX.down (h : DiskX w a bs bl v x D) : decide (x ≠ 0) = decide (D.power ≠ 0) := by
  have := h.pow
  rw [Bool.eq_iff_iff]
  simp only [decide_eq_true_eq]
  omega
end
theorem cv_one (c : Chg) : (cv c).oneCell' = true := by cases c <;> rfl
theorem chg_info : (Tryd.prog.info? 147).map (fun i => (i.zero, i.size, i.bytes)) = some (some .nilIface, 1, 16) := by kernel_rfl
theorem dtake_any (a o b : Nat) (S : Fls) (vs : List Value) (w : World) (c : Chg) (h : FAt w a o b S vs) (hu : fUsed S + c.data ≤ 1000000000) : Calls Tryd.prog 98 #[.pointer (some ⟨a, o, none⟩), cv c, alwaysV] w fun e w' => e = .returned (.tuple #[]) ∧
    FAt w' a o b (mkF S c) (vs.set (o + 1) (.int .i64 (fUsed (mkF S c) : Int))) ∧ Turns (AB a b) w w' := by
  cases c with
  | wr p d => exact take_wr a o b S vs w p d h hu
  | rn p q => exact take_rn a o b S vs w _ p q h (by simp [Chg.data] at hu; omega)
  | rm p => exact take_rm a o b S vs w _ p h (by simp [Chg.data] at hu; omega)

section
variable (a bs bl : Nat) (v : Value) (x : Int) (D : Dk) (w : World)
theorem up_any (h : DiskX w a bs bl v x D) : Calls Tryd.prog 93 #[.pointer (some ⟨a, 0, none⟩)] w fun e w' => e = .returned (.bool !(decide (D.power = 0))) ∧ w' = w := by
  have c1 := h.has.cell (k := 1) rfl
  have hd : (!(x == 0)) = !(decide (D.power = 0)) := by
    have := h.pow
    rw [Bool.eq_iff_iff]
    simp
    omega
  rw [← hd]
  clear hd
  go_enter Tryd.func93, Tryd.ntmps93
  go_wp2
  go_ret
  exact ⟨rfl, rfl⟩
theorem waits_any (h : DiskX w a bs bl v x D) : Calls Tryd.prog 48 #[.pointer (some ⟨a, 0, none⟩)] w fun e w' => e = .returned (.int .i64 (D.waits.length : Int)) ∧ w' = w := by
  have c1 := h.has.cell (k := 6) rfl
  obtain ⟨A, c, rfl, _⟩ := own_form h.row
  go_enter Tryd.func48, Tryd.ntmps48
  go_wp2
  go_ret
  exact ⟨rfl, rfl⟩
/-- What is left behind a call that is done. -/
def spX (x : Int) : Int := if 0 < x then x - 1 else x
theorem spend_any (h : DiskX w a bs bl v x D) : Calls Tryd.prog 100 #[.pointer (some ⟨a, 0, none⟩)] w fun e w' => e = .returned (.tuple #[]) ∧ DiskX w' a bs bl v (spX x) D.spent ∧ Turns (fun k => k = a) w w' := by
  have c1 := h.has.cell (k := 1) rfl
  have f1 := h.has.free 1
  have hp := h.pow
  have hlo := h.lo
  have hhi := h.hi
  by_cases h0 : 0 < x
  · have d1 : decide (x > 0) = true := by simpa using h0
    have hw : wrap64 (x - 1) = x - 1 := by unfold wrap64; omega
    have hs : spX x = x - 1 := if_pos h0
    have hD : D.spent.power = x - 1 := by show (if 0 < D.power then D.power - 1 else D.power) = x - 1; rw [if_pos (by omega)]; omega
    clear hp
    go_enter Tryd.func100, Tryd.ntmps100
    go_wp2
    go_end0
    rw [hs]
    have ht : Turns (fun k => k = a) w (w.setCell ⟨a, 1, none⟩ (.int .i64 (x - 1))) := Turns.of_set w _ rfl
    exact ⟨rfl, ⟨h.has.set_ (k := 1) (by simp [dcells]) _, by rw [hD]; omega, by omega, by omega, h.seen.turned ht (fun e => h.ne1 e.symm), h.lasts.turned ht (fun e => h.ne2 e.symm), own_turned h.row ht (fun g hg => (h.nv g hg).1), h.ne1, h.ne2, h.ne3, h.nv, h.ok.spent⟩, ht⟩
  · have d1 : decide (x > 0) = false := by simpa using h0
    have hs : spX x = x := if_neg h0
    have hD : D.spent = D := by
      show ({ D with power := if 0 < D.power then D.power - 1 else D.power } : Dk) = D
      rw [if_neg (by omega)]
    rw [hs, hD]
    clear hp hs hD
    go_enter Tryd.func100, Tryd.ntmps100
    go_wp2
    go_end0
    exact ⟨rfl, h, Turns.refl _ _⟩
set_option maxHeartbeats 2000000 in
theorem do_any (c : Chg) (h : DiskX w a bs bl v x D) (hu : fUsed D.seen + c.data ≤ 1000000000) (hn : D.waits.length ≤ 1000000) :
    Calls Tryd.prog 94 #[.pointer (some ⟨a, 0, none⟩), cv c] w fun e w' => ∃ v', e = .returned (.tuple #[]) ∧ DiskX w' a bs bl v' (spX x) (D.do_ c) ∧ Turns (Foot a bs bl v) w w' ∧ ∀ g, v'.ownBlock = some g → v.ownBlock = some g ∨ w.heap.size ≤ g := by
  have hT := dtake_any a 2 bs D.seen _ w c h.fs hu
  obtain ⟨i0, hi0, hz0, hz1, hz2⟩ := info_parts chg_info
  have hone := cv_one c
  obtain ⟨zt, zu, hz⟩ : ∃ t u, cv c = .iface t u := by cases c <;> exact ⟨_, _, rfl⟩
  have HZ := Lib.hid hz
  rw [hz] at hT hone ⊢
  clear hz
  go_enter Tryd.func94, Tryd.ntmps94
  go_wp2_with fail
  refine hT.mono ?_
  rintro e w1 ⟨rfl, h1, t1⟩
  have b1 : Has w1 a [.int .i64 D.room, .int .i64 x, .map (some bs), .int .i64 (fUsed (mkF D.seen c) : Int), .map (some bl), .int .i64 (fUsed D.lasts : Int), v] := h1.has
  have c6 := b1.cell (k := 6) rfl
  have f6 := b1.free 6
  have r1 := own_turned h.row t1 (fun g hg e => e.elim (h.nv g hg).1 (h.nv g hg).2.1)
  have hnew := Lies.new w1 147 [.iface zt zu]
  have hga := grows_alloc w1 (.cells #[.iface zt zu] 147)
  have b1a := b1.later hga
  have r1a := own_later r1 hga
  have hsz : w1.heap.size ≤ (w1.alloc (.cells #[.iface zt zu] 147)).heap.size := hga.size
  have hs1 : (w1.alloc (.cells #[.iface zt zu] 147)).heap.size = w1.heap.size + 1 := by simp
  have HS := Lib.hid hs1
  have hal : a < w1.heap.size := b1.lt
  clear hs1 hsz
  go_wp2_with (at_builtin; refine wpList_append_src _ rfl (.tmp 13) (.tmp 15) _ rfl 0 147 i0 _ 16 Tryd.underlying118 hi0 hz0 hz1 hz2 rfl v D.waits.length _ rfl r1a _ _ 1 1 [.iface zt zu] rfl rfl hnew (by intro u hu; simp at hu; subst hu; exact hone) (by unfold maxLen; omega) (by omega) (Nat.zero_le _) ?_; intro v2 w2 hown2 hg2 hat2; obtain ⟨A2, c2, rfl, hc2⟩ := own_form hown2; have b2 := b1a.turned (Turns.of_by (S := fun k => v.ownBlock = some k) hg2 (fun g hg _ => hg)) (fun e => (h.nv _ e).1 rfl); have c62 := b2.cell (k := 6) rfl; have f62 := b2.free 6)
  have t2 : Turns (fun k => v.ownBlock = some k) w1 w2 := (Turns.of_grows hga).trans (Turns.of_by hg2 (fun g hg _ => hg))
  have hv2 : ∀ g, (Value.slice A2 (D.waits.length + 1) c2).ownBlock = some g → v.ownBlock = some g ∨ w1.heap.size ≤ g := fun g hg => by
    rcases hat2 with e | e
    · exact .inl (e ▸ hg)
    · rw [e, HS.out] at hg
      injection hg with hg
      exact .inr (by omega)
  have hl1 : ∀ k, Foot a bs bl v k → k < w1.heap.size := fun k hk => Nat.lt_of_lt_of_le (h.lt k hk) t1.size
  have hnv2 : ∀ g, (Value.slice A2 (D.waits.length + 1) c2).ownBlock = some g → g ≠ a ∧ g ≠ bs ∧ g ≠ bl := fun g hg => by
    rcases hv2 g hg with e | e
    · exact h.nv g e
    · have q1 := hl1 a (.inl rfl); have q2 := hl1 bs (.inr (.inl rfl)); have q3 := hl1 bl (.inr (.inr (.inl rfl)))
      omega
  have t3 : Turns (fun k => k = a) w2 (w2.setCell ⟨a, 6, none⟩ (.slice A2 (D.waits.length + 1) c2)) := Turns.of_set w2 _ rfl
  have X : DiskX (w2.setCell ⟨a, 6, none⟩ (.slice A2 (D.waits.length + 1) c2)) a bs bl (.slice A2 (D.waits.length + 1) c2) x { D with seen := mkF D.seen c, waits := D.waits ++ [c] } := by
    refine ⟨b2.set_ (k := 6) (by simp) (.slice A2 (D.waits.length + 1) c2), h.pow, h.lo, h.hi, ?_, ?_, ?_, h.ne1, h.ne2, h.ne3, hnv2, ⟨(h.ok.do_ c).lasts, (h.ok.do_ c).seen⟩⟩
    · exact (h1.files.turned t2 (fun e => (h.nv _ e).2.1 rfl)).turned t3 (fun e => h.ne1 e.symm)
    · exact ((h.lasts.turned t1 (fun e => e.elim (fun e => h.ne2 e.symm) (fun e => h.ne3 e.symm))).turned t2 (fun e => (h.nv _ e).2.2 rfl)).turned t3 (fun e => h.ne2 e.symm)
    · have hr := own_turned hown2 t3 (fun g hg => (hnv2 g hg).1)
      have e1 : D.waits.map cv ++ [.iface zt zu] = (D.waits ++ [c]).map cv := by rw [List.map_append, ← HZ.out]; rfl
      rw [e1] at hr
      rw [List.length_append]
      exact hr
  have hSp := spend_any a bs bl (.slice A2 (D.waits.length + 1) c2) x _ _ X
  clear HZ b1 b1a c6 f6
  go_wp2_with fail
  refine hSp.mono ?_
  rintro e w4 ⟨rfl, X4, t4⟩
  go_wp2_with fail
  go_end0
  refine ⟨_, rfl, X4, ?_, fun g hg => (hv2 g hg).imp id fun e => Nat.le_trans t1.size e⟩
  have u1 : Turns (Foot a bs bl v) w w1 := t1.mono fun k _ e => e.elim .inl (fun e => .inr (.inl e))
  have u2 : Turns (Foot a bs bl v) w1 w2 := t2.mono fun k _ e => .inr (.inr (.inr e))
  exact ((u1.trans u2).trans (t3.mono fun k _ e => .inl e)).trans (t4.mono fun k _ e => .inl e)
end
end Go.Proofs.YtbcldknecdbemaaDoor

/-
  disk: Write, Read, Rename, Remove.
-/
namespace Go.Proofs.YtbcldknecdbemaaDoor
open Go.RowKit
set_option linter.unusedVariables false
set_option maxRecDepth 20000

def DiskAt (w : World) (a bs bl : Nat) (v : Value) (D : Dk) : Prop := ∃ x, DiskX w a bs bl v x D
/-- Where what waits lies: where it lay, or in memory that is new. -/
def Vloc (w : World) (v v' : Value) : Prop := ∀ g, v'.ownBlock = some g → v.ownBlock = some g ∨ w.heap.size ≤ g
theorem Vloc.refl (w : World) (v : Value) : Vloc w v v := fun g h => .inl h
theorem Vloc.later {w w1 : World} {v v' : Value} (h : Vloc w1 v v') (hs : w.heap.size ≤ w1.heap.size) : Vloc w v v' := fun g hg => (h g hg).imp id fun e => Nat.le_trans hs e
abbrev rv (x : Int) : Value := .int .i64 x

section
variable (a bs bl : Nat) (v : Value) (D : Dk) (w : World)
set_option maxHeartbeats 2000000 in
theorem write_dk (p : Byts) (A : Option Addr) (n c : Nat) (d : Byts) (h : DiskAt w a bs bl v D) (hd : d.length = n) (hl : Lies w w.heap.size A (d.map bv)) (hW : D.weight + n ≤ 100000000) (hn : D.waits.length ≤ 1000000) (hr : 0 ≤ D.room ∧ D.room ≤ 1048576) :
    Calls Tryd.prog 68 #[.pointer (some ⟨a, 0, none⟩), tv p, .slice A n c] w fun e w' => ∃ v', e = .returned (rv (writeD D p d).2) ∧ DiskAt w' a bs bl v' (writeD D p d).1 ∧ Turns (Foot a bs bl v) w w' ∧ Vloc w v v' := by
  obtain ⟨x, h⟩ := h
  have hM := mayname_any p
  have hU := fun u (h' : DiskX u a bs bl v x D) => up_any a bs bl v x D u h'
  have husd := h.ok.used
  have hud := used_del h.seen.nodup p
  unfold writeD
  cases e1 : namedB p with
  | false =>
    rw [if_pos rfl]
    rw [e1] at hM
    clear hud husd
    go_enter Tryd.func68, Tryd.ntmps68
    go_wp2_with fail
    refine (hM _).mono ?_
    rintro e w ⟨rfl, rfl⟩
    go_wp2_with fail
    go_ret
    exact ⟨v, rfl, ⟨x, h⟩, Turns.refl _ _, Vloc.refl _ _⟩
  | true =>
    rw [if_neg (by simp)]
    rw [e1] at hM
    have hp97 : p.length ≤ 100000000 := by
      unfold namedB at e1
      simp at e1
      omega
    by_cases e2 : D.power = 0
    · rw [if_pos e2]
      have hU2 := hU w h
      rw [show (!(decide (D.power = 0))) = false by simp [e2]] at hU2
      clear hud husd e2
      go_enter Tryd.func68, Tryd.ntmps68
      go_wp2_with fail
      refine (hM _).mono ?_
      rintro e w ⟨rfl, rfl⟩
      go_wp2_with fail
      refine hU2.mono ?_
      rintro e w ⟨rfl, rfl⟩
      go_wp2_with fail
      go_ret
      exact ⟨v, rfl, ⟨x, h⟩, Turns.refl _ _, Vloc.refl _ _⟩
    · rw [if_neg e2]
      have hU2 := hU w h
      rw [show (!(decide (D.power = 0))) = true by simp [e2]] at hU2
      have c0 : ∀ u, Grows w.drew u → u.cell? ⟨a, 0, none⟩ = some (.int .i64 D.room) := fun u hu => (h.has.later (Grows.trans (Grows.refl w).drew hu)).cell (k := 0) rfl
      have c2 : ∀ u, Grows w.drew u → u.cell? ⟨a, 2, none⟩ = some (.map (some bs)) := fun u hu => (h.has.later (Grows.trans (Grows.refl w).drew hu)).cell (k := 2) rfl
      have c3 : ∀ u, Grows w.drew u → u.cell? ⟨a, 3, none⟩ = some (.int .i64 (fUsed D.seen : Int)) := fun u hu => (h.has.later (Grows.trans (Grows.refl w).drew hu)).cell (k := 3) rfl
      have hg : ∀ u, Grows w.drew u → (Instr.lookup 115 (.map (some bs)) (tv p) false).run Tryd.prog u = .ok (tv ((fGet D.seen p).getD [])) u := fun u hu => by
        have := get_any bs D.seen p u (h.seen.later (Grows.trans (Grows.refl w).drew hu)) false
        simpa using this
      have hsz := size_mk ((fGet D.seen p).getD [])
      have hw1 : IntKind.i64.wrap ((fUsed D.seen : Int) - (((fGet D.seen p).getD []).length : Int)) = (fUsed D.seen : Int) - (((fGet D.seen p).getD []).length : Int) := IntWalk.i64_in _ (by omega)
      have hw2 : IntKind.i64.wrap ((fUsed D.seen : Int) - (((fGet D.seen p).getD []).length : Int) + (n : Int)) = (fUsed D.seen : Int) - (((fGet D.seen p).getD []).length : Int) + (n : Int) := IntWalk.i64_in _ (by omega)
      rw [hd]
      have HW := Lib.hid hW
      have HU := Lib.hid husd
      have hgd := (Grows.refl w).drew
      clear hud husd hW
      generalize (fGet D.seen p).getD [] = y at *
      by_cases e3 : D.room < (fUsed D.seen : Int) - (y.length : Int) + (n : Int)
      · rw [if_pos e3]
        have d3 : decide ((fUsed D.seen : Int) - (y.length : Int) + (n : Int) > D.room) = true := by simpa using e3
        clear e2 e3
        go_enter Tryd.func68, Tryd.ntmps68
        go_wp2_with fail
        refine (hM _).mono ?_
        rintro e w ⟨rfl, rfl⟩
        go_wp2_with fail
        refine hU2.mono ?_
        rintro e w ⟨rfl, rfl⟩
        go_wp2_with fail
        refine wp_region_ord 23 [(0, true), (1, true), (2, true), (3, true), (4, true), (5, true), (6, true), (7, true), (8, true), (9, true), (10, true), (11, true), (12, true), (13, true), (14, true), (15, true), (16, true), (17, true), (18, true), (19, true), (20, true), (21, true), (22, true)] (by kernel_rfl) (by kernel_rfl) ?_
        have hO := Grows.refl w.drew
        generalize hwd : w.drew = wd at *
        clear hwd
        repeat (first | (refine ord_take hO _ ?_ (by simp only [List.getElem?_cons_succ, List.getElem?_cons_zero]; rfl) (by rfl) ?_ ?_; rotate_left; (· (intro u hu0 hu; (try go_simp); (try with_reducible rfl))); try simp only [Act.put, List.setIfInBounds_toArray, List.set_cons_zero, List.set_cons_succ]) | (refine ord_skip _ (by simp only [List.getElem?_cons_succ, List.getElem?_cons_zero]; rfl) (by rfl) ?_; try simp only [Act.put, List.setIfInBounds_toArray, List.set_cons_zero, List.set_cons_succ]))
        refine ord_done (fun u hu1 => ?_); simp only [List.drop_succ_cons, List.drop_zero]
        go_wp2_with fail
        refine NoPanic.normal ?_
        go_wp2_with fail
        go_ret
        exact ⟨v, rfl, ⟨x, h.later (Grows.trans hgd hu1)⟩, Turns.of_grows (Grows.trans hgd hu1), Vloc.refl _ _⟩
      · rw [if_neg e3]
        have d3 : decide ((fUsed D.seen : Int) - (y.length : Int) + (n : Int) > D.room) = false := by simpa using e3
        clear e2 e3
        go_enter Tryd.func68, Tryd.ntmps68
        go_wp2_with fail
        refine (hM _).mono ?_
        rintro e w ⟨rfl, rfl⟩
        go_wp2_with fail
        refine hU2.mono ?_
        rintro e w ⟨rfl, rfl⟩
        go_wp2_with fail
        refine wp_region_ord 23 [(0, true), (1, true), (2, true), (3, true), (4, true), (5, true), (6, true), (7, true), (8, true), (9, true), (10, true), (11, true), (12, true), (13, true), (14, true), (15, true), (16, true), (17, true), (18, true), (19, true), (20, true), (21, true), (22, true)] (by kernel_rfl) (by kernel_rfl) ?_
        have hO := Grows.refl w.drew
        generalize hwd : w.drew = wd at *
        clear hwd
        repeat (first | (refine ord_take hO _ ?_ (by simp only [List.getElem?_cons_succ, List.getElem?_cons_zero]; rfl) (by rfl) ?_ ?_; rotate_left; (· (intro u hu0 hu; (try go_simp); (try with_reducible rfl))); try simp only [Act.put, List.setIfInBounds_toArray, List.set_cons_zero, List.set_cons_succ]) | (refine ord_skip _ (by simp only [List.getElem?_cons_succ, List.getElem?_cons_zero]; rfl) (by rfl) ?_; try simp only [Act.put, List.setIfInBounds_toArray, List.set_cons_zero, List.set_cons_succ]))
        refine ord_done (fun w5 hu1 => ?_); simp only [List.drop_succ_cons, List.drop_zero]
        have hgw : Grows w w5 := Grows.trans hgd hu1
        clear hO c0 c2 c3 hg hgd hu1
        go_wp2_with fail
        refine NoPanic.normal ?_
        go_wp2_with fail
        have hcs : ∀ u, Grows w5.drew u → (convert 22 9 (.slice A n c)).run Tryd.prog u = .ok (tv d) u := fun u hu =>
          run_string_of u 22 5 Tryd.underlying22 Tryd.underlying5 9 Tryd.underlying9 _ A n c d hd (hl.later (Grows.trans hgw (Grows.trans (Grows.refl w5).drew hu)))
        have hgd5 := Grows.trans hgw (Grows.refl w5).drew
        refine wp_region_ord 7 [(0, true), (1, true), (3, true), (4, true), (2, false), (5, true), (6, true)] (by kernel_rfl) (by kernel_rfl) ?_
        have hO := Grows.refl w5.drew
        generalize hwd : w5.drew = wd5 at *
        clear hwd
        repeat (first | (refine ord_take hO _ ?_ (by simp only [List.getElem?_cons_succ, List.getElem?_cons_zero]; rfl) (by rfl) ?_ ?_; rotate_left; (· (intro u hu0 hu; (try go_simp); (try with_reducible rfl))); try simp only [Act.put, List.setIfInBounds_toArray, List.set_cons_zero, List.set_cons_succ]) | (refine ord_skip _ (by simp only [List.getElem?_cons_succ, List.getElem?_cons_zero]; rfl) (by rfl) ?_; try simp only [Act.put, List.setIfInBounds_toArray, List.set_cons_zero, List.set_cons_succ]))
        (refine ord_move _ (by simp only [List.getElem?_cons_succ, List.getElem?_cons_zero]; rfl) (by rfl) (fun u hu K hK => ?_); go_simp)
        refine (tclone_any p u hp97).mono ?_
        rintro e w6 ⟨rfl, hg6⟩
        refine hK.out _ _ hg6 ?_
        clear hK K hO
        have hcs6 : ∀ u, Grows w6 u → (convert 22 9 (.slice A n c)).run Tryd.prog u = .ok (tv d) u := fun u' hu' => hcs u' (Grows.trans hu (Grows.trans hg6 hu'))
        clear hcs
        have hO := Grows.refl w6
        repeat (first | (refine ord_take hO _ ?_ (by simp only [List.getElem?_cons_succ, List.getElem?_cons_zero]; rfl) (by rfl) ?_ ?_; rotate_left; (· (intro u hu0 hu; (try go_simp); (try with_reducible rfl))); try simp only [Act.put, List.setIfInBounds_toArray, List.set_cons_zero, List.set_cons_succ]) | (refine ord_skip _ (by simp only [List.getElem?_cons_succ, List.getElem?_cons_zero]; rfl) (by rfl) ?_; try simp only [Act.put, List.setIfInBounds_toArray, List.set_cons_zero, List.set_cons_succ]))
        refine ord_done (fun w7 hu7 => ?_); simp only [List.drop_succ_cons, List.drop_zero]
        have hgw7 := Grows.trans hgd5 (Grows.trans hu (Grows.trans hg6 hu7))
        have hX := h.later hgw7
        have hDo := do_any a bs bl v x D w7 (.wr p d) hX (by show fUsed D.seen + d.length ≤ _; rw [hd]; have := HW.out; have := HU.out; omega) hn
        rw [show cv (.wr p d) = .iface 144 (.agg #[tv p, tv d]) from rfl] at hDo
        clear hcs6
        go_wp2_with fail
        refine hDo.mono ?_
        rintro e w8 ⟨v', rfl, X8, t8, l8⟩
        go_wp2_with fail
        refine NoPanic.normal ?_
        go_wp2_with fail
        go_ret
        exact ⟨v', rfl, ⟨_, X8⟩, (Turns.of_grows hgw7).trans t8, Vloc.later l8 hgw7.size⟩
end
end Go.Proofs.YtbcldknecdbemaaDoor

/-
  disk: Read, Rename, Remove.
-/
namespace Go.Proofs.YtbcldknecdbemaaDoor
open Go.RowKit
set_option linter.unusedVariables false
set_option maxRecDepth 20000

/-- Bytes in a row of their own, new since w0. -/
def Fresh (w0 w : World) (v : Value) (l : Byts) : Prop := (v = .slice none 0 0 ∧ l = []) ∨ ∃ g c, v = .slice (some ⟨g, 0, none⟩) l.length c ∧ l.length ≤ c ∧ c ≤ maxLen ∧ w0.heap.size ≤ g ∧
  (∀ j u, (l.map bv)[j]? = some u → w.cell? ⟨g, j, none⟩ = some u) ∧ ∀ j, j < l.length → w.frozen? ⟨g, j, none⟩ = false
section
variable (a bs bl : Nat) (v : Value) (D : Dk) (w : World)
set_option maxHeartbeats 2000000 in
theorem read_dk (p : Byts) (h : DiskAt w a bs bl v D) (hW : D.weight ≤ 100000000) :
    Calls Tryd.prog 74 #[.pointer (some ⟨a, 0, none⟩), tv p] w fun e w' => ∃ u, e = .returned (.tuple #[u, rv (readD D p).2]) ∧ Fresh w w' u (readD D p).1 ∧ Grows w w' := by
  obtain ⟨x, h⟩ := h
  have hU := up_any a bs bl v x D w h
  have hH := fhas_any a 2 bs D.seen _ p w h.fs
  have c2 := h.has.cell (k := 2) rfl
  have husd := h.ok.used
  have hud := used_del h.seen.nodup p
  unfold readD
  by_cases e2 : D.power = 0
  · rw [if_pos e2]
    rw [show (!(decide (D.power = 0))) = false by simp [e2]] at hU
    clear e2 husd hud
    go_enter Tryd.func74, Tryd.ntmps74
    go_wp2_with fail
    refine hU.mono ?_
    rintro e w ⟨rfl, rfl⟩
    go_wp2_with fail
    go_ret2
    exact ⟨_, rfl, .inl ⟨rfl, rfl⟩, Grows.refl _⟩
  · rw [if_neg e2]
    rw [show (!(decide (D.power = 0))) = true by simp [e2]] at hU
    cases hg : fGet D.seen p with
    | none =>
      rw [hg] at hH
      simp only [Option.isSome_none] at hH
      clear e2 husd hud hg
      go_enter Tryd.func74, Tryd.ntmps74
      go_wp2_with fail
      refine hU.mono ?_
      rintro e w ⟨rfl, rfl⟩
      go_wp2_with fail
      refine hH.mono ?_
      rintro e w ⟨rfl, rfl⟩
      go_wp2_with fail
      go_ret2
      exact ⟨_, rfl, .inl ⟨rfl, rfl⟩, Grows.refl _⟩
    | some d =>
      rw [hg] at hH hud
      simp only [Option.isSome_some] at hH
      simp only [Option.getD_some] at hud
      have hgt := get_any bs D.seen p w h.seen false
      rw [hg] at hgt
      simp at hgt
      obtain ⟨w1, c1, hrun, hc1, hc2, hB, hs1, hcl, hfr⟩ := run_bytes_of (P := Tryd.prog) 9 22 5 Tryd.underlying9 Tryd.underlying22 Tryd.underlying5 d (by simp [maxLen]; omega) w
      clear e2 husd hud hg
      go_enter Tryd.func74, Tryd.ntmps74
      go_wp2_with fail
      refine hU.mono ?_
      rintro e w ⟨rfl, rfl⟩
      go_wp2_with fail
      refine hH.mono ?_
      rintro e w ⟨rfl, rfl⟩
      go_wp2_with fail
      go_ret2
      exact ⟨_, rfl, .inr ⟨w.heap.size, c1, rfl, hc1, hc2, Nat.le_refl _, hcl, hfr⟩, hB⟩
set_option maxHeartbeats 2000000 in
theorem rename_dk (p q : Byts) (h : DiskAt w a bs bl v D) (hW : D.weight ≤ 100000000) (hn : D.waits.length ≤ 1000000) (hp : p.length ≤ 100000000) :
    Calls Tryd.prog 72 #[.pointer (some ⟨a, 0, none⟩), tv p, tv q] w fun e w' => ∃ v', e = .returned (rv (renameD D p q).2) ∧ DiskAt w' a bs bl v' (renameD D p q).1 ∧ Turns (Foot a bs bl v) w w' ∧ Vloc w v v' := by
  obtain ⟨x, h⟩ := h
  have hM := mayname_any q
  have hU := up_any a bs bl v x D w h
  have hH := fhas_any a 2 bs D.seen _ p w h.fs
  have husd := h.ok.used
  have hDo := fun u (hu : Grows w u) => do_any a bs bl v x D u (.rn p q) (h.later hu) (by simp [Chg.data]; omega) hn
  rw [show cv (.rn p q) = .iface 150 (.agg #[tv p, tv q]) from rfl] at hDo
  unfold renameD
  cases e1 : namedB q with
  | false =>
    rw [if_pos rfl]
    rw [e1] at hM
    clear husd
    go_enter Tryd.func72, Tryd.ntmps72
    go_wp2_with fail
    refine (hM _).mono ?_
    rintro e w ⟨rfl, rfl⟩
    go_wp2_with fail
    go_ret
    exact ⟨v, rfl, ⟨x, h⟩, Turns.refl _ _, Vloc.refl _ _⟩
  | true =>
    rw [if_neg (by simp)]
    rw [e1] at hM
    have hq97 : q.length ≤ 100000000 := by
      unfold namedB at e1
      simp at e1
      omega
    by_cases e2 : D.power = 0
    · rw [if_pos e2]
      rw [show (!(decide (D.power = 0))) = false by simp [e2]] at hU
      clear e2 husd
      go_enter Tryd.func72, Tryd.ntmps72
      go_wp2_with fail
      refine (hM _).mono ?_
      rintro e w ⟨rfl, rfl⟩
      go_wp2_with fail
      refine hU.mono ?_
      rintro e w ⟨rfl, rfl⟩
      go_wp2_with fail
      go_ret
      exact ⟨v, rfl, ⟨x, h⟩, Turns.refl _ _, Vloc.refl _ _⟩
    · rw [if_neg e2]
      rw [show (!(decide (D.power = 0))) = true by simp [e2]] at hU
      cases hg : fGet D.seen p with
      | none =>
        rw [hg] at hH
        simp only [Option.isSome_none] at hH
        rw [if_pos rfl]
        clear e2 husd hg
        go_enter Tryd.func72, Tryd.ntmps72
        go_wp2_with fail
        refine (hM _).mono ?_
        rintro e w ⟨rfl, rfl⟩
        go_wp2_with fail
        refine hU.mono ?_
        rintro e w ⟨rfl, rfl⟩
        go_wp2_with fail
        refine hH.mono ?_
        rintro e w ⟨rfl, rfl⟩
        go_wp2_with fail
        go_ret
        exact ⟨v, rfl, ⟨x, h⟩, Turns.refl _ _, Vloc.refl _ _⟩
      | some d =>
        rw [hg] at hH
        simp only [Option.isSome_some] at hH
        rw [if_neg (by simp)]
        clear e2 husd hg
        go_enter Tryd.func72, Tryd.ntmps72
        go_wp2_with fail
        refine (hM _).mono ?_
        rintro e w ⟨rfl, rfl⟩
        go_wp2_with fail
        refine hU.mono ?_
        rintro e w ⟨rfl, rfl⟩
        go_wp2_with fail
        refine hH.mono ?_
        rintro e w ⟨rfl, rfl⟩
        go_wp2_with fail
        refine (tclone_any p _ hp).mono ?_
        rintro e w1 ⟨rfl, hg1⟩
        go_wp2_with fail
        refine (tclone_any q _ hq97).mono ?_
        rintro e w2 ⟨rfl, hg2⟩
        go_wp2_with fail
        refine (hDo _ (Grows.trans hg1 hg2)).mono ?_
        rintro e w3 ⟨v', rfl, X2, t2, l2⟩
        go_wp2_with fail
        go_ret
        exact ⟨v', rfl, ⟨_, X2⟩, (Turns.of_grows (Grows.trans hg1 hg2)).trans t2, Vloc.later l2 (Grows.trans hg1 hg2).size⟩
end
end Go.Proofs.YtbcldknecdbemaaDoor

/-
  cmp.Compare of texts, slices.Compare and slices.Equal of rows of texts, the reference's SameTexts. No condition but that the texts lie there.
-/
namespace Go.Proofs.YtbcldknecdbemaaDoor
open Go.RowKit
set_option linter.unusedVariables false
set_option maxRecDepth 20000

theorem less_cmp (x y : List UInt8) : Op.bytesLess x y = decide (cmpB x y = -1) := by
  induction x generalizing y with
  | nil => cases y <;> simp [Op.bytesLess, cmpB]
  | cons a x ih =>
    cases y with
    | nil => simp [Op.bytesLess, cmpB]
    | cons b y =>
      rw [Op.bytesLess, cmpB, ih]
      by_cases h1 : a.toNat < b.toNat
      · have : a < b := UInt8.lt_iff_toNat_lt.2 h1
        simp [h1, this]
      · have n1 : ¬ a < b := fun e => h1 (UInt8.lt_iff_toNat_lt.1 e)
        by_cases h2 : b.toNat < a.toNat
        · have : a ≠ b := fun e => by subst e; omega
          simp [h1, h2, n1, this]
        · obtain rfl : a = b := UInt8.toNat_inj.1 (by omega)
          simp
theorem run_tlt (t : TypeId) (x y : List UInt8) : binOp .lss t (tv x) (tv y) = (pure (.bool (decide (cmpB x y = -1))) : Sem Value) := by rw [binOp_string_lss, toList_mk, toList_mk, less_cmp]
theorem run_tgt (t : TypeId) (x y : List UInt8) : binOp .gtr t (tv x) (tv y) = (pure (.bool (decide (cmpB x y = 1))) : Sem Value) := by
  rw [binOp_string_gtr, toList_mk, toList_mk, less_cmp]
  have h := cmpB_eq x y
  rcases cmpB_val x y with e | e | e
  · simp [e]
  · have := h.1 e
    subst this
    simp [e]
  · have : x ≠ y := fun q => by have := h.2 q; omega
    have b : (x == y) = false := by rw [beq_eq_false_iff_ne]; exact this
    rw [b]
    simp [e]

theorem texts_at {w : World} {A : Option Addr} {n c : Nat} {ls : List (List UInt8)} (h : Texts w A n c ls) {k : Nat} (hk : k < n) : ∃ ad x, A = some ad ∧ ls[k]? = some x ∧ w.cell? (ad.add k) = some (tv x) := by
  obtain ⟨x, hx⟩ : ∃ x, ls[k]? = some x := ⟨_, List.getElem?_eq_getElem (by rw [h.len]; exact hk)⟩
  obtain ⟨ad, e, _, hc⟩ := h.lies.at_ (j := k) (u := tv x) (by rw [List.getElem?_map, hx]; rfl)
  exact ⟨ad, x, e, hx, hc⟩
theorem drop_at {α : Type} {l : List α} {k : Nat} {x : α} (h : l[k]? = some x) : l.drop k = x :: l.drop (k + 1) := by
  obtain ⟨hk, e⟩ := List.getElem?_eq_some_iff.1 h
  rw [List.drop_eq_getElem_cons hk, e]
theorem take_at {α : Type} {l : List α} {k : Nat} {x : α} (h : l[k]? = some x) : l.take (k + 1) = l.take k ++ [x] := by
  rw [List.take_add_one, h]; rfl

theorem eq_step {α : Type} [BEq α] [LawfulBEq α] {xs ys : List α} {k : Nat} {x y : α} (hx : xs[k]? = some x) (hy : ys[k]? = some y) (h : xs.take k = ys.take k) (e : x = y) : xs.take (k + 1) = ys.take (k + 1) := by
  rw [take_at hx, take_at hy, h, e]

end Go.Proofs.YtbcldknecdbemaaDoor

/-
  disk: Sync, New.
-/
namespace Go.Proofs.YtbcldknecdbemaaDoor
open Go.RowKit
set_option linter.unusedVariables false
set_option maxRecDepth 20000

theorem dataSum_take (l : List Chg) (k : Nat) : dataSum (l.take k) ≤ dataSum l := by
  conv => rhs; rw [← List.take_append_drop k l]
  unfold dataSum
  rw [List.map_append, List.sum_append]
  exact Nat.le_add_right _ _
theorem dataSum_next {l : List Chg} {k : Nat} {c : Chg} (h : l[k]? = some c) : dataSum (l.take k) + c.data ≤ dataSum l := by
  have := dataSum_take l (k + 1)
  rw [take_at h, dataSum_snoc] at this
  exact this
theorem mks_next {l : List Chg} {k : Nat} {c : Chg} (h : l[k]? = some c) (S : Fls) : (l.take (k + 1)).foldl mkF S = mkF ((l.take k).foldl mkF S) c := by
  rw [take_at h, List.foldl_append]; rfl
theorem row_at {w : World} {base : Nat} {e : TypeId} {A : Option Addr} {n c : Nat} {l : List Chg} (h : w.ownsRow base e 1 (.slice A n c) n (l.map cv)) {k : Nat} (hk : k < n) : ∃ ad x, A = some ad ∧ l[k]? = some x ∧ w.cell? (ad.add k) = some (cv x) := by
  have hl : l.length = n := by have := h.1; simpa using this
  obtain ⟨x, hx⟩ : ∃ x, l[k]? = some x := ⟨_, List.getElem?_eq_getElem (by rw [hl]; exact hk)⟩
  obtain ⟨ad, e, _, hc⟩ := (Lies.of_own h) k (cv x) (by rw [List.getElem?_map, hx]; rfl)
  exact ⟨ad, x, e, hx, hc⟩
section
variable (a bs bl : Nat) (v : Value) (D : Dk) (w : World)
set_option maxHeartbeats 2000000 in
theorem sync_dk (h : DiskAt w a bs bl v D) (hW : D.weight ≤ 100000000) (hn : D.waits.length ≤ 1000000) :
    Calls Tryd.prog 70 #[.pointer (some ⟨a, 0, none⟩)] w fun e w' => ∃ v', e = .returned (rv (syncD D).2) ∧ DiskAt w' a bs bl v' (syncD D).1 ∧ Turns (Foot a bs bl v) w w' ∧ Vloc w v v' := by
  obtain ⟨x, h⟩ := h
  have hU := up_any a bs bl v x D w h
  unfold syncD
  by_cases e2 : D.power = 0
  · rw [if_pos e2]
    rw [show (!(decide (D.power = 0))) = false by simp [e2]] at hU
    clear e2
    go_enter Tryd.func70, Tryd.ntmps70
    go_wp2_with fail
    refine hU.mono ?_
    rintro e w ⟨rfl, rfl⟩
    go_wp2_with fail
    go_ret
    exact ⟨v, rfl, ⟨x, h⟩, Turns.refl _ _, Vloc.refl _ _⟩
  · rw [if_neg e2]
    rw [show (!(decide (D.power = 0))) = true by simp [e2]] at hU
    obtain ⟨A, c, rfl, hc⟩ := own_form h.row
    have c6 := h.has.cell (k := 6) rfl
    obtain ⟨n, hnn⟩ : ∃ n, n = D.waits.length := ⟨_, rfl⟩
    have hrow := h.row
    rw [← hnn] at hrow hn c6 h ⊢
    have HN := Lib.hid hnn
    clear e2 hnn
    go_enter Tryd.func70, Tryd.ntmps70
    go_wp2_with fail
    refine hU.mono ?_
    rintro e w ⟨rfl, rfl⟩
    go_wp2_with fail
    go_loopw [13] (fun i wr => ∃ k : Nat, k ≤ n ∧ i = .int .i64 (k : Int) ∧ FAt wr a 4 bl ((D.waits.take k).foldl mkF D.lasts) [.int .i64 D.room, .int .i64 x, .map (some bs), .int .i64 (fUsed D.seen : Int), .map (some bl), .int .i64 (fUsed ((D.waits.take k).foldl mkF D.lasts) : Int), .slice A n c] ∧ Turns (AB a bl) w wr) (fun i _ => n - (intOf i).toNat)
    case atStart => exact ⟨0, Nat.zero_le _, rfl, h.fl, Turns.refl _ _⟩
    case round =>
      obtain ⟨k, hk, rfl, F, T⟩ := hrel
      have hrowr := own_turned hrow T (fun g hg e => by have := h.nv g hg; rcases e with e | e <;> omega)
      by_cases hlt : k < n
      · obtain ⟨ad, y, rfl, hy, hcy⟩ := row_at hrowr hlt
        have hT := dtake_any a 4 bl _ _ wr y F (by
          have h1 := used_mks (D.waits.take k) h.ok.lasts
          have h2 := dataSum_next hy
          unfold Dk.weight at hW
          omega)
        rw [← mks_next hy] at hT
        obtain ⟨zt, zu, hz⟩ : ∃ t u, cv y = .iface t u := by cases y <;> exact ⟨_, _, rfl⟩
        rw [hz] at hT hcy
        clear hz hy
        go_wp2_with fail
        refine hT.mono ?_
        rintro e w2 ⟨rfl, F2, t2⟩
        go_wp2_with fail
        go_roundw
        case rel => exact ⟨k + 1, by omega, by go_num, F2, T.trans t2⟩
        case measure => simp [intOf]; omega
      · obtain rfl : k = n := by omega
        have hall : (D.waits.take k).foldl mkF D.lasts = D.seen := by rw [HN.out, List.take_length]; exact h.ok.seen.symm
        rw [hall] at F
        have f6 := F.has.free 6
        have c6' := F.has.cell (k := 6) rfl
        have t3 : Turns (fun q => q = a) wr (wr.setCell ⟨a, 6, none⟩ (.slice none 0 0)) := Turns.of_set wr _ rfl
        have X : DiskX (wr.setCell ⟨a, 6, none⟩ (.slice none 0 0)) a bs bl (.slice none 0 0) x { D with lasts := D.seen, waits := [] } := by
          refine ⟨F.has.set_ (k := 6) (by simp) _, h.pow, h.lo, h.hi, ?_, ?_, World.ownsRow_nil _ _ _ _, h.ne1, h.ne2, h.ne3, fun g hg => by simp [Value.ownBlock] at hg, ⟨h.ok.srt, rfl⟩⟩
          · exact (h.seen.turned T (fun e => e.elim (fun e => h.ne1 e.symm) (fun e => h.ne3 e))).turned t3 (fun e => h.ne1 e.symm)
          · exact F.files.turned t3 (fun e => h.ne2 e.symm)
        have hSp := spend_any a bs bl _ x _ _ X
        clear hall
        go_wp2_with fail
        refine hSp.mono ?_
        rintro e w4 ⟨rfl, X4, t4⟩
        go_wp2_with fail
        go_ret
        refine ⟨.slice none 0 0, rfl, ⟨_, X4⟩, ?_, fun g hg => by simp [Value.ownBlock] at hg⟩
        exact ((T.mono fun q _ e => e.elim .inl (fun e => .inr (.inr (.inl e)))).trans (t3.mono fun q _ e => .inl e)).trans (t4.mono fun q _ e => .inl e)
end
set_option maxHeartbeats 2000000 in
theorem new_dk (room : Int) (w : World) : Calls Tryd.prog 63 #[rv room] w fun e w' => Grows w w' ∧ ((¬ (1 ≤ room ∧ room ≤ 1048576) ∧ e = .returned (.tuple #[.pointer none, rv 1])) ∨
    ((1 ≤ room ∧ room ≤ 1048576) ∧ ∃ a bs bl, e = .returned (.tuple #[.pointer (some ⟨a, 0, none⟩), rv 0]) ∧ DiskAt w' a bs bl (.slice none 0 0) (newD room) ∧ ∀ k, Foot a bs bl (.slice none 0 0) k → w.heap.size ≤ k)) := by
  by_cases h1 : room < 1
  · have d1 : decide (room < 1) = true := by simpa using h1
    have hno : ¬ (1 ≤ room ∧ room ≤ 1048576) := by omega
    have HNo := Lib.hid hno
    clear h1 hno
    go_enter Tryd.func63, Tryd.ntmps63
    go_wp2_with fail
    go_ret2
    exact ⟨Grows.refl _, .inl ⟨HNo.out, rfl⟩⟩
  · have d1 : decide (room < 1) = false := by simpa using h1
    by_cases h2 : room > 1048576
    · have d2 : decide (room > 1048576) = true := by simpa using h2
      have hno : ¬ (1 ≤ room ∧ room ≤ 1048576) := by omega
      have HNo := Lib.hid hno
      clear h1 h2 hno
      go_enter Tryd.func63, Tryd.ntmps63
      go_wp2_with fail
      go_ret2
      exact ⟨Grows.refl _, .inl ⟨HNo.out, rfl⟩⟩
    · have d2 : decide (room > 1048576) = false := by simpa using h2
      have hyes : 1 ≤ room ∧ room ≤ 1048576 := by omega
      have HY := Lib.hid hyes
      clear h1 h2 hyes
      go_enter Tryd.func63, Tryd.ntmps63
      go_wp2_with fail
      refine (nofiles_any _).mono ?_
      rintro e w1 ⟨bs, rfl, hb1, hf1, hg1⟩
      go_wp2_with fail
      refine (nofiles_any _).mono ?_
      rintro e w2 ⟨bl, rfl, hb2, hf2, hg2⟩
      go_wp2_with fail
      have hbox := Has.new w2 120 [rv room, rv (-1), .map (some bs), rv 0, .map (some bl), rv 0, .slice none 0 0]
      have hg3 := grows_alloc w2 (.cells [rv room, rv (-1), .map (some bs), rv 0, .map (some bl), rv 0, .slice none 0 0].toArray 120)
      have hl1 := hf1.lt
      have hl2 := hf2.lt
      have hs1 := hg1.size
      have hs2 := hg2.size
      go_ret2
      refine ⟨Grows.trans hg1 (Grows.trans hg2 hg3), .inr ⟨HY.out, w2.heap.size, bs, bl, rfl, ⟨-1, ?_⟩, ?_⟩⟩
      · exact ⟨hbox, rfl, by omega, by omega, (hf1.later hg2).later hg3, hf2.later hg3, World.ownsRow_nil _ _ _ _, by omega, by omega, by omega, fun g hg => by simp [Value.ownBlock] at hg, Dk.Ok.new room⟩
      · rintro k (rfl | rfl | rfl | hk)
        · omega
        · exact hb1
        · omega
        · simp [Value.ownBlock] at hk
end Go.Proofs.YtbcldknecdbemaaDoor

/-
  disk: Restart.
-/
namespace Go.Proofs.YtbcldknecdbemaaDoor
open Go.RowKit
set_option linter.unusedVariables false
set_option maxRecDepth 20000

/-- rstF, one change on: what is left of the bits, what is there. -/
def stepB (c : Chg) (ks : List Bool) : List Bool := if ks.headD false = true then (match c with | .wr _ _ => ks.tail.tail | _ => ks.tail) else ks.tail
def stepF (c : Chg) (ks : List Bool) (S : Fls) : Fls := if ks.headD false = true then (match c with | .wr p b => fPut S p (if ks.tail.headD false = true then b else halfB b) | c => mkF S c) else S
theorem rst_step (c : Chg) (r : List Chg) (ks : List Bool) (S : Fls) : rstF (c :: r) ks S = rstF r (stepB c ks) (stepF c ks S) := by
  conv => lhs; unfold rstF
  unfold stepB stepF
  split
  · cases c <;> rfl
  · rfl
def bitsAt : List Chg → List Bool → List Bool
  | [], ks => ks
  | c :: r, ks => bitsAt r (stepB c ks)
theorem rst_snoc (c : Chg) : ∀ (l : List Chg) (ks : List Bool) (S : Fls), rstF (l ++ [c]) ks S = stepF c (bitsAt l ks) (rstF l ks S)
  | [], ks, S => by rw [List.nil_append, rst_step]; rfl
  | x :: r, ks, S => by rw [List.cons_append, rst_step, rst_snoc c r, rst_step x r]; rfl
theorem bits_snoc (c : Chg) : ∀ (l : List Chg) (ks : List Bool), bitsAt (l ++ [c]) ks = stepB c (bitsAt l ks)
  | [], ks => rfl
  | x :: r, ks => bits_snoc c r _
/-- A store of two cells into a block of more. -/
theorem wpList_store2 {P : Program} {w : World} {ops : Array Oper} {rest : List Oper} {op : Oper} {ac : Act} {Q : Exit → Act → World → Prop} (hgd : op.guard = none) (ty : TypeId) (x y : Operand) (ho : op.op = .store ty x y)
    (b o : Nat) (vs : List Value) (p q : Value) (hx : ac.eval x = .pointer (some ⟨b, o, none⟩)) (hy : ac.eval y = .agg #[p, q]) (hb : Has w b vs) (hl : o + 1 < vs.length) (hi : (P.info? ty).map (·.size) = some 2)
    (h1 : p.oneCell' = true) (h2 : q.oneCell' = true) (h : ∀ w', Has w' b ((vs.set o p).set (o + 1) q) → Turns (fun k => k = b) w w' → wpList P ops Q rest (ac.put op.dst undef) w') : wpList P ops Q (op :: rest) ac w := by
  have hth : w.there b o 2 := by
    have := there_of (hb.part o (cs := [vs[o]'(by omega), vs[o + 1]'hl]) (by
      intro j u hu
      match j, hu with
      | 0, hu => simp at hu; rw [← hu]; simp
      | 1, hu => simp at hu; rw [← hu]; simp)) hb.free
    exact this
  refine wpList_store_mid hgd ty x y ho b o #[p, q] hx hy hth hi (by simp [h1, h2]) ?_
  exact h _ ((hb.set_ (k := o) (by omega) p).set_ (k := o + 1) (by simpa using hl) q) (turns_cells b _ o w)
def HAB (a b k : Nat) (i : Nat) : Prop := i = a ∨ i = b ∨ i = k

section
variable (a o b k : Nat) (S : Fls) (vs : List Value) (w : World) (ok : Nat → Prop) (ks : List Bool)
end

section
variable (a bs bl : Nat) (v : Value) (D : Dk) (w : World)
end
end Go.Proofs.YtbcldknecdbemaaDoor

/-
  disk: List. A map of files, gone through in whatever row.
-/
namespace Go.Proofs.YtbcldknecdbemaaDoor
open Go.RowKit
set_option linter.unusedVariables false
set_option maxRecDepth 20000

/-- Block r goes through the map of block b; what is still to come: L. -/
def Rng (w : World) (b r : Nat) (L : Fls) : Prop := ∃ es clock since seen c0 l, w.heap[b]? = some (.map es clock) ∧ MapKept.Stamped es clock ∧ ekv es = kvs l ∧ w.heap[r]? = some (.mapIter (some b) since seen c0) ∧
  (∀ x ∈ es.toList, x.born < since) ∧ since ≤ c0 ∧ since ≤ clock ∧ ekv (leftOf es seen) = kvs L
theorem Rng.ne {w : World} {b r : Nat} {L : Fls} (h : Rng w b r L) : r ≠ b := by
  obtain ⟨es, clock, since, seen, c0, l, hb, _, _, hr, _⟩ := h
  intro e
  rw [e, hb] at hr; cases hr
theorem Rng.lt {w : World} {b r : Nat} {L : Fls} (h : Rng w b r L) : r < w.heap.size ∧ b < w.heap.size := by
  obtain ⟨es, clock, since, seen, c0, l, hb, _, _, hr, _⟩ := h
  exact ⟨(Array.getElem?_eq_some_iff.1 hr).1, (Array.getElem?_eq_some_iff.1 hb).1⟩
theorem Rng.turned {w w' : World} {b r : Nat} {L : Fls} {Q : Nat → Prop} (h : Rng w b r L) (ht : Turns Q w w') (h1 : ¬ Q b) (h2 : ¬ Q r) : Rng w' b r L := by
  have hl := h.lt
  obtain ⟨es, clock, since, seen, c0, l, hb, a1, a2, hr, a3⟩ := h
  exact ⟨es, clock, since, seen, c0, l, (ht.block b hl.2 h1).trans hb, a1, a2, (ht.block r hl.1 h2).trans hr, a3⟩
/-- Is this its key? -/
def isK (p : Byts) (v : Value) : Bool := match v with
  | .string s => s.data.toList == p
  | _ => false
theorem isK_iff (p : Byts) (v : Value) : isK p v = true ↔ v = tv p := by
  unfold isK
  split
  · rename_i s
    rw [beq_iff_eq]
    constructor
    · intro h
      show Value.string s = Value.string ⟨p.toArray⟩
      rw [← h]
    · intro h
      injection h with h
      rw [h]
  · rename_i h
    constructor
    · intro h; cases h
    · intro e; exact absurd e (h _)
theorem isK_no {p : Byts} {v : Value} (h : v ≠ tv p) : isK p v = false := by
  cases e : isK p v
  · rfl
  · exact absurd ((isK_iff p v).1 e) h
theorem kv_filter {es : List MapEntry} {L : Fls} (h : es.map (fun e => (e.key, e.val)) = kvs L) (p : Byts) : (es.filter (fun e => !isK p e.key)).map (fun e => (e.key, e.val)) = kvs (fDel L p) := by
  induction es generalizing L with
  | nil => cases L with
    | nil => rfl
    | cons y r => simp [kvs] at h
  | cons e r ih =>
    cases L with
    | nil => simp [kvs] at h
    | cons y L =>
      simp only [List.map_cons, kvs, List.cons.injEq, Prod.mk.injEq] at h
      obtain ⟨⟨h1, h2⟩, h3⟩ := h
      rw [fDel_cons]
      by_cases hy : y.1 = p
      · rw [if_pos hy, List.filter_cons_of_neg (by rw [(isK_iff p e.key).2 (by rw [h1, hy])]; simp)]
        exact ih h3
      · rw [if_neg hy, List.filter_cons_of_pos (by rw [isK_no (by rw [h1]; exact fun e => hy (tv_inj e))]; rfl)]
        simp only [List.map_cons, kvs, h1, h2]
        congr 1
        exact ih h3
section
variable {P : Program} {w : World} {b r : Nat} {S L : Fls}
theorem Rng.start {T K E : TypeId} (hT : P.underlying T = some (.map K E)) (h : Files w b S) : ∃ w' L, (Instr.range T (.map (some b))).run P w = .ok (.pointer (some ⟨w.heap.size, 0, none⟩)) w' ∧ Rng w' b w.heap.size L ∧ L.Perm S ∧ Grows w w' := by
  have hlt := h.lt
  obtain ⟨es, clock, l, hb, hs, hl, hp⟩ := h
  refine ⟨_, l, run_range_map w T K E b es clock hT hb, ⟨es, clock, clock, #[], clock, l, ((MapKept.heap_alloc w _).2 b hlt).trans hb, hs, hl, (MapKept.heap_alloc w _).1, hs.1, Nat.le_refl _, Nat.le_refl _, ?_⟩, hp, grows_alloc _ _⟩
  have : leftOf es #[] = es := by simp [leftOf]
  rw [this]; exact hl
theorem Rng.next (h : Rng w b r L) (ty : TypeId) : (L = [] ∧ (Instr.next (.pointer (some ⟨r, 0, none⟩)) false ty).run P w = .ok (.tuple #[.bool false]) w) ∨
    ∃ x w', L.Perm (x :: fDel L x.1) ∧ (Instr.next (.pointer (some ⟨r, 0, none⟩)) false ty).run P w = .ok (.tuple #[.bool true, tv x.1, tv x.2]) w' ∧ Rng w' b r (fDel L x.1) ∧ w.grownBy w' (some r) ∧ w'.heap.size = w.heap.size ∧
      (Instr.entry (.pointer (some ⟨r, 0, none⟩))).run P w' = .ok (.tuple #[tv x.1, tv x.2]) w' := by
  have hne := h.ne
  obtain ⟨es, clock, since, seen, c0, l, hb, hs, hl, hr, hold, hsc, hsk, hL⟩ := h
  rcases run_next_at (P := P) w ty r b since c0 seen es clock hr hb hold hsc with ⟨h0, hrun⟩ | ⟨e, he, w1, hal, hrun⟩
  · refine .inl ⟨?_, hrun⟩
    have : leftOf es seen = #[] := Array.eq_empty_of_size_eq_zero h0
    rw [this] at hL
    cases L with
    | nil => rfl
    | cons y r => simp [ekv, kvs] at hL
  · obtain ⟨hem, hes⟩ := mem_left he
    obtain ⟨j, hj⟩ := List.getElem?_of_mem he
    obtain ⟨x, hx, hk, hv⟩ := kv_at hL j hj
    have hr1 : w1.heap[r]? = some (.mapIter (some b) since seen c0) := by rcases hal with rfl | rfl <;> exact hr
    have hb1 : w1.heap[b]? = some (.map es clock) := by rcases hal with rfl | rfl <;> exact hb
    have hset := MapKept.heap_set (o' := .mapIter (some b) since (seen.push e.born) clock) hr1
    have hst := (MapKept.stamped_iff es clock).1 hs
    have hleft : (leftOf es (seen.push e.born)).toList = (leftOf es seen).toList.filter (fun y => !isK x.1 y.key) := by
      unfold leftOf
      rw [Array.toList_filter, Array.toList_filter, List.filter_filter]
      refine List.filter_congr fun y hy => ?_
      rw [contains_push]
      have hbk : (y.born == e.born) = isK x.1 y.key := by
        rw [Bool.eq_iff_iff, beq_iff_eq, isK_iff, ← hk]
        constructor
        · intro h; rw [born_inj hst.2.1 hy hem h]
        · intro h
          have := entry_eq_of_key hst.2.2 hy hem h
          rw [this]
      rw [hbk]
      cases seen.contains y.born <;> cases isK x.1 y.key <;> rfl
    have hLn : (L.map (·.1)).Nodup := by
      have h1 : (leftOf es seen).toList.map (·.key) = L.map (fun x => tv x.1) := by
        have := congrArg (List.map Prod.fst) hL
        simpa [ekv, kvs, Function.comp_def] using this
      have h2 : ((leftOf es seen).toList.map (·.key)).Nodup := by
        unfold leftOf
        rw [Array.toList_filter]
        exact hs.2.2.sublist ((List.filter_sublist (l := es.toList)).map _)
      rw [h1] at h2
      rw [List.Nodup, List.pairwise_map] at h2 ⊢
      exact h2.imp fun h e => h (by rw [e])
    refine .inr ⟨x, _, ?_, by rw [← hk, ← hv]; exact hrun, ⟨es, clock, since, seen.push e.born, clock, l, (hset.2 b (fun e1 => hne e1.symm)).trans hb1, hs, hl, hset.1, hold, hsk, hsk, ?_⟩, ?_, ?_, ?_⟩
    · have h1 := fPut_perm (p := x.1) (b := x.2) L
      have h2 := set_perm1 hLn hx x.2
      have h3 : L.set j (x.1, x.2) = L := by
        apply List.ext_getElem?
        intro i
        by_cases hi : j = i
        · subst hi; rw [List.getElem?_set_self (List.getElem?_eq_some_iff.1 hx).1, hx]
        · rw [List.getElem?_set_ne hi]
      rw [h3] at h2
      exact h2
    · show ((leftOf es (seen.push e.born)).toList).map _ = _
      rw [hleft]
      exact kv_filter hL x.1
    · rcases hal with rfl | rfl <;> exact ⟨rfl, rfl, rfl, by simp [ChangeMaps.setBlock], fun i _ hi => hset.2 i (fun e1 => hi (by rw [e1]))⟩
    · rcases hal with rfl | rfl <;> simp [ChangeMaps.setBlock]
    · have := run_entry_at (P := P) (ChangeMaps.setBlock w1 r (.mapIter (some b) since (seen.push e.born) clock)) r b since seen es clock e hset.1 ((hset.2 b (fun e1 => hne e1.symm)).trans hb1) hem hst.2.1
      rw [← hk, ← hv]
      exact this
end
end Go.Proofs.YtbcldknecdbemaaDoor

/-
  disk: List.
-/
namespace Go.Proofs.YtbcldknecdbemaaDoor
open Go.RowKit
set_option linter.unusedVariables false
set_option maxRecDepth 20000

section
variable {P : Program} {ops : Array Oper} {rest : List Oper} {oper : Oper} {ac : Act} {Q : Exit → Act → World → Prop} {w : World} {b r : Nat} {L : Fls}
theorem wpList_nextF (hg : oper.guard = none) (it : Operand) (hop : oper.op = Op.next it false) (hit : ac.eval it = .pointer (some ⟨r, 0, none⟩)) (h : Rng w b r L)
    (hDone : L = [] → wpList P ops Q rest (ac.put oper.dst (.tuple #[.bool false])) w)
    (hMore : ∀ x w', L.Perm (x :: fDel L x.1) → Rng w' b r (fDel L x.1) → Turns (fun k => k = r) w w' → w'.heap.size = w.heap.size → (Instr.entry (.pointer (some ⟨r, 0, none⟩))).run P w' = .ok (.tuple #[tv x.1, tv x.2]) w' → wpList P ops Q rest (ac.put oper.dst (.tuple #[.bool true, tv x.1, tv x.2])) w') :
    wpList P ops Q (oper :: rest) ac w := by
  refine wpList_plain hg fun K' hK' => ?_
  unfold Oper.wp
  rcases h.next (P := P) oper.type with ⟨h0, hrun⟩ | ⟨x, w', hp, hrun, hrg, hgr, hsz, hen⟩
  · simp [execOp, hop, hit, hrun, Result.andThen]
    exact hK' _ _ (hDone h0)
  · simp [execOp, hop, hit, hrun, Result.andThen]
    exact hK' _ _ (hMore x w' hp hrg (Turns.of_by hgr fun g hg _ => by cases hg; rfl) hsz hen)
end
def preF (S : Fls) (q : Byts) : List Byts := (S.filter (fun x => prefB x.1 q)).map (·.1)
theorem preF_cons (x : Byts × Byts) (S : Fls) (q : Byts) : preF (x :: S) q = if prefB x.1 q = true then x.1 :: preF S q else preF S q := by
  unfold preF
  by_cases h : prefB x.1 q = true
  · simp [h]
  · simp [h]
theorem preF_perm {S S' : Fls} (h : S.Perm S') (q : Byts) : (preF S q).Perm (preF S' q) := (h.filter _).map _
theorem preF_srt {S : Fls} (h : Srt S) (q : Byts) : (preF S q).Pairwise (fun x y => cmpB x y = -1) := by
  unfold preF
  rw [List.pairwise_map]
  exact h.sub List.filter_sublist
theorem preF_len (S : Fls) (q : Byts) : (preF S q).length ≤ S.length := by
  unfold preF
  rw [List.length_map]
  exact List.length_filter_le _ _

section
variable (a bs bl : Nat) (v : Value) (D : Dk) (w : World)
end
end Go.Proofs.YtbcldknecdbemaaDoor

/-
  disk, for those who call it: a disk whose blocks are from m on, and none of X.
-/
namespace Go.Proofs.YtbcldknecdbemaaDoor
open Go.RowKit
set_option linter.unusedVariables false
set_option maxRecDepth 20000

def Dsk (w : World) (a m : Nat) (X : Nat → Prop) (D : Dk) : Prop := ∃ bs bl v, DiskAt w a bs bl v D ∧ ∀ k, Foot a bs bl v k → m ≤ k ∧ ¬ X k
section
variable {w w' : World} {a m : Nat} {X X' Q : Nat → Prop} {D : Dk}
theorem Dsk.turned (h : Dsk w a m X D) (ht : Turns Q w w') (hQ : ∀ k, Q k → ¬ (m ≤ k ∧ ¬ X k)) : Dsk w' a m X D := by
  obtain ⟨bs, bl, v, ⟨x, h1⟩, h2⟩ := h
  exact ⟨bs, bl, v, ⟨x, h1.turned ht (fun k hk hq => hQ k hq (h2 k hk))⟩, h2⟩
theorem Dsk.later (h : Dsk w a m X D) (hg : Grows w w') : Dsk w' a m X D := h.turned (Q := fun _ => False) (Turns.of_grows hg) (fun _ e => e.elim)
theorem Dsk.more (h : Dsk w a m X D) (hX : ∀ k, X' k → X k ∨ w.heap.size ≤ k) : Dsk w a m X' D := by
  obtain ⟨bs, bl, v, ⟨x, h1⟩, h2⟩ := h
  exact ⟨bs, bl, v, ⟨x, h1⟩, fun k hk => ⟨(h2 k hk).1, fun e => (hX k e).elim (h2 k hk).2 (fun e => by have := h1.lt k hk; omega)⟩⟩
theorem Dsk.ok (h : Dsk w a m X D) : D.Ok := by
  obtain ⟨bs, bl, v, ⟨x, h1⟩, h2⟩ := h
  exact h1.ok
theorem Dsk.pos (h : Dsk w a m X D) : m ≤ w.heap.size := by
  obtain ⟨bs, bl, v, ⟨x, h1⟩, h2⟩ := h
  have := h1.lt a (.inl rfl)
  have := (h2 a (.inl rfl)).1
  omega
theorem Dsk.low (h : Dsk w a m X D) : -1 ≤ D.power := by
  obtain ⟨bs, bl, v, ⟨x, h1⟩, h2⟩ := h
  have := h1.pow
  omega
end
theorem Fresh.lies {w0 w : World} {v : Value} {l : Byts} (h : Fresh w0 w v l) : ∃ A c, v = .slice A l.length c ∧ Lies w w.heap.size A (l.map bv) := by
  rcases h with ⟨rfl, rfl⟩ | ⟨g, c, rfl, h1, h2, h3, h4, h5⟩
  · exact ⟨none, 0, rfl, Lies.empty⟩
  · refine ⟨_, c, rfl, fun j u hu => ?_⟩
    have := h4 j u hu
    exact ⟨⟨g, 0, none⟩, rfl, World.block_lt_of_cell? w ⟨g, j, none⟩ this, by rw [add_plain, Nat.zero_add]; exact this⟩
theorem Fresh.later {w0 w w' : World} {v : Value} {l : Byts} (h : Fresh w0 w v l) (hg : Grows w w') : Fresh w0 w' v l := by
  rcases h with ⟨rfl, rfl⟩ | ⟨g, c, rfl, h1, h2, h3, h4, h5⟩
  · exact .inl ⟨rfl, rfl⟩
  · refine .inr ⟨g, c, rfl, h1, h2, h3, fun j u hu => hcell_later (h4 j u hu) hg, fun j hj => ?_⟩
    obtain ⟨u, hu⟩ : ∃ u, (l.map bv)[j]? = some u := ⟨_, List.getElem?_eq_getElem (by simpa using hj)⟩
    rw [World.frozen?_of_block (hg.block g (World.block_lt_of_cell? w _ (h4 j u hu)))]
    exact h5 j hj
theorem Fresh.turned {w0 w w' : World} {v : Value} {l : Byts} {Q : Nat → Prop} (h : Fresh w0 w v l) (ht : Turns Q w w') (hQ : ∀ k, w0.heap.size ≤ k → k < w.heap.size → ¬ Q k) : Fresh w0 w' v l := by
  rcases h with ⟨rfl, rfl⟩ | ⟨g, c, rfl, h1, h2, h3, h4, h5⟩
  · exact .inl ⟨rfl, rfl⟩
  · have hlt : ∀ j, j < l.length → g < w.heap.size := fun j hj => by
      obtain ⟨u, hu⟩ : ∃ u, (l.map bv)[j]? = some u := ⟨_, List.getElem?_eq_getElem (by simpa using hj)⟩
      exact World.block_lt_of_cell? w ⟨g, j, none⟩ (h4 j u hu)
    refine .inr ⟨g, c, rfl, h1, h2, h3, fun j u hu => ?_, fun j hj => ?_⟩
    · have hj : j < l.length := by have := (List.getElem?_eq_some_iff.1 hu).1; simpa using this
      exact ht.cell (h4 j u hu) (hQ g h3 (hlt j hj))
    · rw [World.frozen?_of_block (ht.block g (hlt j hj) (hQ g h3 (hlt j hj)))]
      exact h5 j hj
/-- string(v), whatever bytes there are. -/
theorem Fresh.text {w0 w : World} {v : Value} {l : Byts} (h : Fresh w0 w v l) : (convert 22 9 v).run Tryd.prog w = .ok (tv l) w := by
  obtain ⟨A, c, rfl, hl⟩ := h.lies
  exact run_string_of w 22 5 Tryd.underlying22 Tryd.underlying5 9 Tryd.underlying9 _ A _ c l rfl hl

section
variable (a m : Nat) (X : Nat → Prop) (D : Dk) (w : World)
theorem up_d (h : Dsk w a m X D) : Calls Tryd.prog 93 #[.pointer (some ⟨a, 0, none⟩)] w fun e w' => e = .returned (.bool !(decide (D.power = 0))) ∧ w' = w := by
  obtain ⟨bs, bl, v, ⟨x, h1⟩, h2⟩ := h
  exact up_any a bs bl v x D w h1
theorem waits_d (h : Dsk w a m X D) : Calls Tryd.prog 48 #[.pointer (some ⟨a, 0, none⟩)] w fun e w' => e = .returned (.int .i64 (D.waits.length : Int)) ∧ w' = w := by
  obtain ⟨bs, bl, v, ⟨x, h1⟩, h2⟩ := h
  exact waits_any a bs bl v x D w h1
theorem foot_next {a bs bl m : Nat} {X : Nat → Prop} {v v' : Value} {w : World} (h2 : ∀ k, Foot a bs bl v k → m ≤ k ∧ ¬ X k) (hX : ∀ k, X k → k < w.heap.size) (hm : m ≤ w.heap.size) (hl : Vloc w v v') : ∀ k, Foot a bs bl v' k → m ≤ k ∧ ¬ X k := by
  rintro k (rfl | rfl | rfl | hk)
  · exact h2 _ (.inl rfl)
  · exact h2 _ (.inr (.inl rfl))
  · exact h2 _ (.inr (.inr (.inl rfl)))
  · rcases hl k hk with e | e
    · exact h2 _ (.inr (.inr (.inr e)))
    · exact ⟨by omega, fun hx => by have := hX k hx; omega⟩
theorem write_d (p : Byts) (A : Option Addr) (n c : Nat) (d : Byts) (h : Dsk w a m X D) (hX : ∀ k, X k → k < w.heap.size) (hd : d.length = n) (hl : Lies w w.heap.size A (d.map bv)) (hW : D.weight + n ≤ 100000000) (hn : D.waits.length ≤ 1000000) (hr : 0 ≤ D.room ∧ D.room ≤ 1048576) :
    Calls Tryd.prog 68 #[.pointer (some ⟨a, 0, none⟩), tv p, .slice A n c] w fun e w' => e = .returned (rv (writeD D p d).2) ∧ Dsk w' a m X (writeD D p d).1 ∧ Turns (fun k => m ≤ k ∧ ¬ X k) w w' := by
  have hm := h.pos
  obtain ⟨bs, bl, v, h1, h2⟩ := h
  refine (write_dk a bs bl v D w p A n c d h1 hd hl hW hn hr).mono ?_
  rintro e w' ⟨v', rfl, h3, t3, l3⟩
  exact ⟨rfl, ⟨bs, bl, v', h3, foot_next h2 hX hm l3⟩, t3.mono fun k _ e => h2 k e⟩
theorem rename_d (p q : Byts) (h : Dsk w a m X D) (hX : ∀ k, X k → k < w.heap.size) (hW : D.weight ≤ 100000000) (hn : D.waits.length ≤ 1000000) (hp : p.length ≤ 100000000) :
    Calls Tryd.prog 72 #[.pointer (some ⟨a, 0, none⟩), tv p, tv q] w fun e w' => e = .returned (rv (renameD D p q).2) ∧ Dsk w' a m X (renameD D p q).1 ∧ Turns (fun k => m ≤ k ∧ ¬ X k) w w' := by
  have hm := h.pos
  obtain ⟨bs, bl, v, h1, h2⟩ := h
  refine (rename_dk a bs bl v D w p q h1 hW hn hp).mono ?_
  rintro e w' ⟨v', rfl, h3, t3, l3⟩
  exact ⟨rfl, ⟨bs, bl, v', h3, foot_next h2 hX hm l3⟩, t3.mono fun k _ e => h2 k e⟩
theorem sync_d (h : Dsk w a m X D) (hX : ∀ k, X k → k < w.heap.size) (hW : D.weight ≤ 100000000) (hn : D.waits.length ≤ 1000000) :
    Calls Tryd.prog 70 #[.pointer (some ⟨a, 0, none⟩)] w fun e w' => e = .returned (rv (syncD D).2) ∧ Dsk w' a m X (syncD D).1 ∧ Turns (fun k => m ≤ k ∧ ¬ X k) w w' := by
  have hm := h.pos
  obtain ⟨bs, bl, v, h1, h2⟩ := h
  refine (sync_dk a bs bl v D w h1 hW hn).mono ?_
  rintro e w' ⟨v', rfl, h3, t3, l3⟩
  exact ⟨rfl, ⟨bs, bl, v', h3, foot_next h2 hX hm l3⟩, t3.mono fun k _ e => h2 k e⟩
theorem read_d (p : Byts) (h : Dsk w a m X D) (hW : D.weight ≤ 100000000) :
    Calls Tryd.prog 74 #[.pointer (some ⟨a, 0, none⟩), tv p] w fun e w' => ∃ u, e = .returned (.tuple #[u, rv (readD D p).2]) ∧ Fresh w w' u (readD D p).1 ∧ Grows w w' := by
  obtain ⟨bs, bl, v, h1, h2⟩ := h
  exact read_dk a bs bl v D w p h1 hW
end
theorem new_d (room : Int) (w : World) (hr : 1 ≤ room ∧ room ≤ 1048576) : Calls Tryd.prog 63 #[rv room] w fun e w' => ∃ a, e = .returned (.tuple #[.pointer (some ⟨a, 0, none⟩), rv 0]) ∧ Dsk w' a w.heap.size (fun _ => False) (newD room) ∧ Grows w w' := by
  refine (new_dk room w).mono ?_
  rintro e w' ⟨hg, ⟨h, _⟩ | ⟨_, a, bs, bl, rfl, h1, h2⟩⟩
  · exact absurd hr h
  · exact ⟨a, rfl, ⟨bs, bl, _, h1, fun k hk => ⟨h2 k hk, fun e => e⟩⟩, hg⟩
theorem new_no (room : Int) (w : World) (hr : ¬ (1 ≤ room ∧ room ≤ 1048576)) : Calls Tryd.prog 63 #[rv room] w fun e w' => e = .returned (.tuple #[.pointer none, rv 1]) ∧ Grows w w' := by
  refine (new_dk room w).mono ?_
  rintro e w' ⟨hg, ⟨_, rfl⟩ | ⟨h, _⟩⟩
  · exact ⟨rfl, hg⟩
  · exact absurd h hr
end Go.Proofs.YtbcldknecdbemaaDoor

/-
  Law 12's example.
-/
namespace Go.Proofs.YtbcldknecdbemaaDoor
open Go.RowKit
set_option linter.unusedVariables false
set_option maxRecDepth 20000

theorem bool_one (l : List Bool) : ∀ u ∈ l.map Value.bool, u.oneCell' = true := fun u hu => by
  obtain ⟨b, _, rfl⟩ := List.mem_map.1 hu
  rfl
theorem lies_in_new (w : World) (t : TypeId) (vs : List Value) : LiesIn (fun k => k = w.heap.size) (w.alloc (.cells vs.toArray t)) (some ⟨w.heap.size, 0, none⟩) vs := fun j u hu => by
  refine ⟨_, rfl, rfl, ?_⟩
  rw [add_plain, Nat.zero_add]
  exact (Has.new w t vs).cell hu
theorem LiesIn.mono {ok ok' : Nat → Prop} {w : World} {A : Option Addr} {vs : List Value} (h : LiesIn ok w A vs) (hk : ∀ k, ok k → ok' k) : LiesIn ok' w A vs := fun j u hu => let ⟨ad, e, ho, hc⟩ := h j u hu; ⟨ad, e, hk _ ho, hc⟩
/-- Bytes of a constant, as the walk leaves them. -/
theorem lies_mark (w : World) (l : Byts) (fr : Nat × Nat) : Lies (w.alloc (.cells (l.map bv).toArray 5 fr)) (w.alloc (.cells (l.map bv).toArray 5 fr)).heap.size (some ⟨w.heap.size, 0, none⟩) (l.map bv) := fun j u hu => by
  refine ⟨_, rfl, by rw [World.size_alloc]; exact Nat.lt_succ_self _, ?_⟩
  rw [add_plain, Nat.zero_add, World.cell?_alloc_mark]
  simpa using hu
def exD1 : Dk := (writeD (newD 100) [97] [49, 50, 51, 52]).1
def exD2 : Dk := restartD exD1 [true, false]
def exD3 : Dk := (writeD exD2 [98] []).1
def exD4 : Dk := restartD exD3 []
end Go.Proofs.YtbcldknecdbemaaDoor
