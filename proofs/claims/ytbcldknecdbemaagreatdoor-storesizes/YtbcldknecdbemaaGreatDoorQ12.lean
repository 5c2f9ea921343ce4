/-
  Contracts, joined (DkA LiN DkB DkC DkD DkE DkF PaC DkG DkH).
-/
import Derived.Test.YtbcldknecdbemaaGreatDoorQ11
import Derived.Test.YtbcldknecdbemaaGreatDoorQ1
import Derived.Test.YtbcldknecdbemaaGreatDoorQ2
import Derived.Deep.RegionWith
import Derived.Deep.QuietTactic
import Derived.BigQuiet

/-
  disk's own: files in a struct: has, drop, put, copied; what a name may be.
-/
namespace Go.Proofs.YtbcldknecdbemaaGreatDoor
open Go.RowKit
set_option linter.unusedVariables false
set_option maxRecDepth 20000

theorem map_zero (w : World) : (zeroValue 9).run Tryz.prog w = .ok (tv []) w := by kernel_rfl
/-- A struct of files in block a, from o on, its map in block b. -/
structure FAt (w : World) (a o b : Nat) (S : Fls) (vs : List Value) : Prop where
  has : Has w a vs
  map : vs[o]? = some (.map (some b))
  used : vs[o + 1]? = some (.int .i64 (fUsed S : Int))
  files : Files w b S
  ne : a ≠ b
/-- The two blocks. -/
def AB (a b : Nat) (k : Nat) : Prop := k = a ∨ k = b
theorem FAt.later {w w' : World} {a o b : Nat} {S : Fls} {vs : List Value} (h : FAt w a o b S vs) (hg : Grows w w') : FAt w' a o b S vs := ⟨h.has.later hg, h.map, h.used, h.files.later hg, h.ne⟩
theorem FAt.turned {w w' : World} {a o b : Nat} {S : Fls} {vs : List Value} {Q : Nat → Prop} (h : FAt w a o b S vs) (ht : Turns Q w w') (h1 : ¬ Q a) (h2 : ¬ Q b) : FAt w' a o b S vs := ⟨h.has.turned ht h1, h.map, h.used, h.files.turned ht h2, h.ne⟩
theorem FAt.below {w : World} {a o b : Nat} {S : Fls} {vs : List Value} (h : FAt w a o b S vs) : o + 1 < vs.length := (List.getElem?_eq_some_iff.1 h.used).1

section
variable (a o b : Nat) (S : Fls) (vs : List Value) (p : Byts) (w : World)
theorem get_any (h : Files w b S) (okk : Bool) : (Instr.lookup 103 (.map (some b)) (tv p) okk).run Tryz.prog w = .ok (if okk then .tuple #[tv ((fGet S p).getD []), .bool (fGet S p).isSome] else tv ((fGet S p).getD [])) w :=
  h.get Tryz.underlying103 Tryz.underlying9 p map_zero okk
theorem fhas_any (h : FAt w a o b S vs) : Calls Tryz.prog 80 #[.pointer (some ⟨a, o, none⟩), tv p] w fun e w' => e = .returned (.bool (fGet S p).isSome) ∧ w' = w := by
  have c0 := h.has.cell h.map
  have hg := get_any b S p w h.files true
  simp only [if_true] at hg
  generalize (fGet S p).isSome = z at *
  generalize (fGet S p).getD [] = y at *
  go_enter Tryz.func80, Tryz.ntmps80
  go_wp2
  go_ret
  exact ⟨rfl, rfl⟩
section
variable {ops : Array Oper} {rest : List Oper} {oper : Oper} {ac : Act} {Q : Exit → Act → World → Prop} {w : World} {b : Nat} {S : Fls}
/-- delete, at a map of files. -/
theorem wpList_fdel (hg : oper.guard = none) (m x : Operand) (t k : TypeId) (hop : oper.op = Op.call { callee := Callee.builtin Builtin.delete, args := #[m, x], argTypes := #[t, k] }) (ht : t = 103) (hk : k = 9)
    (p : Byts) (hm : ac.eval m = .map (some b)) (hx : ac.eval x = tv p) (h : Files w b S)
    (hK : ∀ w', Files w' b (fDel S p) → Turns (fun k => k = b) w w' → w'.heap.size = w.heap.size → wpList Tryz.prog ops Q rest (ac.put oper.dst (.tuple #[])) w') : wpList Tryz.prog ops Q (oper :: rest) ac w := by
  subst ht hk
  refine wpList_plain hg fun K' hK' => ?_
  obtain ⟨w', hrun, r1, r2, r3⟩ := h.del (P := Tryz.prog) Tryz.underlying103 Tryz.underlying9 p oper.type 9
  unfold Oper.wp
  simp [execOp, hop, resolve, invoke, builtin, hm, hx, hrun, Result.andThen]
  exact hK' _ _ (hK w' r1 (Turns.of_by r2 fun g hg _ => by cases hg; rfl) r3)
/-- m[k] = v, at a map of files. -/
theorem wpList_fput (hg : oper.guard = none) (m x y : Operand) (t : TypeId) (hop : oper.op = Op.mapUpdate t m x y) (ht : t = 103)
    (p v : Byts) (hm : ac.eval m = .map (some b)) (hx : ac.eval x = tv p) (hy : ac.eval y = tv v) (h : Files w b S)
    (hK : ∀ w', Files w' b (fPut S p v) → Turns (fun k => k = b) w w' → w'.heap.size = w.heap.size → wpList Tryz.prog ops Q rest (ac.put oper.dst undef) w') : wpList Tryz.prog ops Q (oper :: rest) ac w := by
  subst ht
  refine wpList_plain hg fun K' hK' => ?_
  obtain ⟨w', hrun, r1, r2, r3⟩ := h.put (P := Tryz.prog) Tryz.underlying103 Tryz.underlying9 p v
  unfold Oper.wp
  simp [execOp, hop, hm, hx, hy, hrun, Result.andThen]
  exact hK' _ _ (hK w' r1 (Turns.of_by r2 fun g hg _ => by cases hg; rfl) r3)
end
theorem del_del (S : Fls) (p : Byts) : fDel (fDel S p) p = fDel S p := fDel_none (get_del_same S p)
theorem put_del_perm (S : Fls) (p d : Byts) : (fPut (fDel S p) p d).Perm (fPut S p d) := (fPut_perm _).trans (by rw [del_del]; exact (fPut_perm S).symm)
theorem set_set1 {α : Type} (l : List α) (k : Nat) (x y : α) : (l.set k x).set k y = l.set k y := by simp
theorem FAt.store {w w2 : World} {a o b : Nat} {S S' : Fls} {vs : List Value} (h : FAt w a o b S vs) (hf : Files w b S') : FAt (w.setCell ⟨a, o + 1, none⟩ (.int .i64 (fUsed S' : Int))) a o b S' (vs.set (o + 1) (.int .i64 (fUsed S' : Int))) := by
  have hb := h.below
  refine ⟨h.has.set_ hb _, ?_, ?_, hf.turned (Turns.of_set (S := fun k => k = a) w _ rfl) (fun e => h.ne e.symm), h.ne⟩
  · rw [List.getElem?_set_ne (by omega)]; exact h.map
  · rw [List.getElem?_set_self hb]
set_option maxHeartbeats 1000000 in
theorem fdrop_any (h : FAt w a o b S vs) (hu : fUsed S ≤ 1000000000) : Calls Tryz.prog 108 #[.pointer (some ⟨a, o, none⟩), tv p] w fun e w' => e = .returned (.tuple #[]) ∧ FAt w' a o b (fDel S p) (vs.set (o + 1) (.int .i64 (fUsed (fDel S p) : Int))) ∧ Turns (AB a b) w w' := by
  have hb := h.below
  have hue := used_del h.files.nodup p
  have c0 : ∀ u, Grows w.drew u → u.cell? ⟨a, o, none⟩ = some (.map (some b)) := fun u hu => (h.has.later (Grows.trans (Grows.refl w).drew hu)).cell h.map
  have c1 : ∀ u, Grows w.drew u → u.cell? ⟨a, o + 1, none⟩ = some (.int .i64 (fUsed S : Int)) := fun u hu => (h.has.later (Grows.trans (Grows.refl w).drew hu)).cell h.used
  have hg : ∀ u, Grows w.drew u → (Instr.lookup 103 (.map (some b)) (tv p) false).run Tryz.prog u = .ok (tv ((fGet S p).getD [])) u := fun u hu => by
    have := get_any b S p u (h.files.later (Grows.trans (Grows.refl w).drew hu)) false
    simpa using this
  have hsz := size_mk ((fGet S p).getD [])
  have hW : IntKind.i64.wrap ((fUsed S : Int) - (((fGet S p).getD []).length : Int)) = (fUsed (fDel S p) : Int) := by
    rw [IntWalk.i64_in _ (by omega)]; omega
  clear hue hu
  generalize (fGet S p).getD [] = y at *
  go_enter Tryz.func108, Tryz.ntmps108
  go_wp2_with fail
  refine wp_region_ord 14 [(0, true), (1, true), (2, true), (3, true), (4, true), (5, true), (6, true), (7, true), (8, true), (9, true), (10, true), (11, true), (12, true), (13, true)] (by kernel_rfl) (by kernel_rfl) ?_
  have hO := Grows.refl w.drew
  have hgd := (Grows.refl w).drew
  generalize hwd : w.drew = wd at *
  clear hwd
  repeat (first | (refine ord_take hO _ ?_ (by simp only [List.getElem?_cons_succ, List.getElem?_cons_zero]; rfl) (by rfl) ?_ ?_; rotate_left; (· (intro u hu0 hu; (try go_simp); (try with_reducible rfl))); try simp only [Act.put, List.setIfInBounds_toArray, List.set_cons_zero, List.set_cons_succ]) | (refine ord_skip _ (by simp only [List.getElem?_cons_succ, List.getElem?_cons_zero]; rfl) (by rfl) ?_; try simp only [Act.put, List.setIfInBounds_toArray, List.set_cons_zero, List.set_cons_succ]))
  (refine ord_done (fun u hu => ?_); simp only [List.drop_succ_cons, List.drop_zero])
  have h1 := h.later (Grows.trans hgd hu)
  have f1 := h1.has.free (o + 1)
  have g1 := c1 u hu
  have c0' := (h1.has.set_ hb (.int .i64 (fUsed (fDel S p) : Int))).cell (k := o) (by rw [List.getElem?_set_ne (by omega)]; exact h.map)
  have hF' := h1.files.turned (Turns.of_set (S := fun k => k = a) (b := a) (o := o + 1) u (.int .i64 (fUsed (fDel S p) : Int)) rfl) (fun e => h.ne e.symm)
  clear hsz hW
  go_wp2_with fail
  refine NoPanic.normal ?_
  go_wp2_with (at_delete; refine wpList_fdel rfl _ _ _ _ rfl rfl rfl p rfl rfl hF' ?_; intro w3 hf3 ht3 hs3)
  go_end0
  refine ⟨rfl, ⟨?_, ?_, ?_, hf3, h.ne⟩, ?_⟩
  · exact (h1.has.set_ hb _).turned ht3 h.ne
  · rw [List.getElem?_set_ne (by omega)]; exact h.map
  · rw [List.getElem?_set_self hb]
  · exact (Turns.of_grows (Grows.trans hgd hu)).trans ((Turns.of_set (S := AB a b) u _ (.inl rfl)).trans (ht3.mono fun k _ e => .inr e))
set_option maxHeartbeats 1000000 in
theorem fput_any (d : Byts) (h : FAt w a o b S vs) (hu : fUsed S + d.length ≤ 1000000000) : Calls Tryz.prog 107 #[.pointer (some ⟨a, o, none⟩), tv p, tv d] w fun e w' => e = .returned (.tuple #[]) ∧ FAt w' a o b (fPut S p d) (vs.set (o + 1) (.int .i64 (fUsed (fPut S p d) : Int))) ∧ Turns (AB a b) w w' := by
  have hb := h.below
  have hue := used_del h.files.nodup p
  have hup := used_put h.files.nodup p d
  have hsz := size_mk d
  have hW : wrap64 ((fUsed (fDel S p) : Int) + (d.length : Int)) = (fUsed (fPut S p d) : Int) := by
    unfold wrap64; omega
  have hD := fdrop_any a o b S vs p w h (by omega)
  clear hue hup hu
  go_enter Tryz.func107, Tryz.ntmps107
  go_wp2_with fail
  refine hD.mono ?_
  rintro e w1 ⟨rfl, h1, t1⟩
  have c0 := h1.has.cell h1.map
  go_wp2_with (at_mapUpdate; refine wpList_fput rfl _ _ _ _ rfl rfl p d rfl rfl rfl h1.files ?_; intro w2 hf2 ht2 hs2; have b2 := h1.has.turned ht2 h1.ne; have c1 := b2.cell h1.used; have f1 := b2.free (o + 1); clear hs2)
  go_end0
  refine ⟨rfl, ⟨?_, ?_, ?_, (hf2.perm (put_del_perm S p d)).turned (Turns.of_set (S := fun k => k = a) w2 _ rfl) (fun e => h.ne e.symm), h.ne⟩, ?_⟩
  · have := b2.set_ (k := o + 1) (by simpa using hb) (.int .i64 (fUsed (fPut S p d) : Int))
    rwa [set_set1] at this
  · rw [List.getElem?_set_ne (by omega)]; exact h.map
  · rw [List.getElem?_set_self hb]
  · exact t1.trans ((ht2.mono fun k _ e => .inr e).trans (Turns.of_set (S := AB a b) w2 _ (.inl rfl)))
set_option maxHeartbeats 1000000 in
theorem fcopied_any (h : FAt w a o b S vs) : Calls Tryz.prog 66 #[.pointer (some ⟨a, o, none⟩)] w fun e w' => ∃ b', e = .returned (.agg #[.map (some b'), .int .i64 (fUsed S : Int)]) ∧ w.heap.size ≤ b' ∧ Files w' b' S ∧ Grows w w' := by
  have hbox := Has.new w 105 [.map none, .int .i64 0]
  have hga := grows_alloc w (.cells #[.map none, .int .i64 0] 105)
  go_enter Tryz.func66, Tryz.ntmps66
  go_wp2_with fail
  change Code.wp _ _ _ _ (w.alloc (.cells [Value.map none, Value.int IntKind.i64 0].toArray 105))
  have hB := hga.size
  generalize hw1 : w.alloc (.cells [Value.map none, Value.int IntKind.i64 0].toArray 105) = w1 at *
  have hga : Grows w w1 := by rw [← hw1]; exact grows_alloc _ _
  generalize hBe : w.heap.size = B at *
  have hBw := Lib.hid (Nat.le_of_eq hBe)
  clear hBe
  clear hw1
  have h1 := h.later hga
  have c0 : ∀ u, Grows w1.drew u → u.cell? ⟨a, o, none⟩ = some (.map (some b)) := fun u hu => (h1.has.later (Grows.trans (Grows.refl w1).drew hu)).cell h.map
  have c1 : ∀ u, Grows w1.drew u → u.cell? ⟨a, o + 1, none⟩ = some (.int .i64 (fUsed S : Int)) := fun u hu => (h1.has.later (Grows.trans (Grows.refl w1).drew hu)).cell h.used
  refine wp_region_ord 10 [(0, true), (1, true), (2, true), (3, true), (5, true), (6, true), (7, true), (8, true), (4, false), (9, true)] (by kernel_rfl) (by kernel_rfl) ?_
  have hO := Grows.refl w1.drew
  have hgd := (Grows.refl w1).drew
  generalize hwd : w1.drew = wd at *
  clear hwd
  repeat (first | (refine ord_take hO _ ?_ (by simp only [List.getElem?_cons_succ, List.getElem?_cons_zero]; rfl) (by rfl) ?_ ?_; rotate_left; (· (intro u hu0 hu; (try go_simp); (try with_reducible rfl))); try simp only [Act.put, List.setIfInBounds_toArray, List.set_cons_zero, List.set_cons_succ]) | (refine ord_skip _ (by simp only [List.getElem?_cons_succ, List.getElem?_cons_zero]; rfl) (by rfl) ?_; try simp only [Act.put, List.setIfInBounds_toArray, List.set_cons_zero, List.set_cons_succ]))
  (refine ord_move _ (by simp only [List.getElem?_cons_succ, List.getElem?_cons_zero]; rfl) (by rfl) (fun u hu K hK => ?_); go_simp)
  refine (mclone_any b S u (h1.files.later (Grows.trans hgd hu))).mono ?_
  rintro e w2 ⟨rfl, hf2, hg2⟩
  refine hK.out _ _ hg2 ?_
  clear hK K hO
  have hbb := hbox.later (Grows.trans hgd (Grows.trans hu hg2))
  have hge := Nat.le_trans hB (Nat.le_trans hgd.size hu.size)
  have hgw : Grows w w2 := Grows.trans hga (Grows.trans hgd (Grows.trans hu hg2))
  generalize u.heap.size = b' at *
  have hO := Grows.refl w2
  repeat (first | (refine ord_take hO _ ?_ (by simp only [List.getElem?_cons_succ, List.getElem?_cons_zero]; rfl) (by rfl) ?_ ?_; rotate_left; (· (intro u hu0 hu; (try go_simp); (try with_reducible rfl))); try simp only [Act.put, List.setIfInBounds_toArray, List.set_cons_zero, List.set_cons_succ]) | (refine ord_skip _ (by simp only [List.getElem?_cons_succ, List.getElem?_cons_zero]; rfl) (by rfl) ?_; try simp only [Act.put, List.setIfInBounds_toArray, List.set_cons_zero, List.set_cons_succ]))
  refine ord_done (fun w3 hu3 => ?_); simp only [List.drop_succ_cons, List.drop_zero]
  have hb3 := hbb.later hu3
  have hne : B ≠ b' := by
    intro e
    subst e
    obtain ⟨es, clock, l, hb, _⟩ := hf2
    obtain ⟨v, hv⟩ : ∃ v, w2.cell? ⟨B, 0, none⟩ = some v := ⟨_, hbb.cell (k := 0) rfl⟩
    simp [World.cell?, hb] at hv
  have hf3 := hf2.later hu3
  have hgw3 : Grows w w3 := Grows.trans hgw hu3
  clear hu hgd hgw
  go_wp2_with (refine wpList_storeT rfl 105 (.tmp 2) (.tmp 12) rfl B [.map none, .int .i64 0] [.map (some b'), .int .i64 (fUsed S : Int)] 2 rfl rfl hb3 rfl rfl (by kernel_rfl) (by intro v hv; simp at hv; rcases hv with rfl | rfl <;> rfl) ?_; intro w4 hb4 ht4)
  refine NoPanic.normal ?_
  go_wp2_with fail
  refine bodyPost_ret (res_has (vs := [.map (some b'), .int .i64 (fUsed S : Int)]) rfl _ rfl Tryz.underlying105 rfl (by kernel_rfl) hb4) rfl ?_
  exact ⟨b', rfl, Nat.le_trans hBw.out hge, hf3.turned ht4 (fun e => hne e.symm), turns_grow hgw3 ht4 hBw.out⟩
end

theorem always_any (w : World) : Calls Tryz.prog 101 #[] w fun e w' => e = .returned (.bool true) ∧ w' = w := by
  go_enter Tryz.func101, Tryz.ntmps101
  go_wp2
  go_ret
  exact ⟨rfl, rfl⟩
theorem mayname_any (p : Byts) (w : World) : Calls Tryz.prog 97 #[tv p] w fun e w' => e = .returned (.bool (namedB p)) ∧ w' = w := by
  have e1 : ∀ t, binOp .neq t (tv p) (.string ⟨#[]⟩) = (pure (.bool !(p == [])) : Sem Value) := fun t => run_tne (P := Tryz.prog) t p []
  have hsz := size_mk p
  have hix := zero_all p
  unfold namedB
  rw [← hix]
  clear hix
  have hC := ixb0_any p
  have hd : decide (p.length < 97) = decide ((p.length : Int) ≤ 96) := by rw [Bool.eq_iff_iff]; simp; omega
  have hp : decide (0 < p.length) = !(p == []) := by cases p <;> simp
  rw [hd, hp]
  clear hd hp
  generalize Lib.indexByte p 0 = z at *
  cases b1 : (p == [])
  · rw [b1] at e1
    cases b2 : decide ((p.length : Int) ≤ 96)
    · clear b1
      go_enter Tryz.func97, Tryz.ntmps97
      go_wp2
      go_ret
      exact ⟨rfl, rfl⟩
    · clear b1
      go_enter Tryz.func97, Tryz.ntmps97
      go_wp2_with fail
      refine (hC _).mono ?_
      rintro e w' ⟨rfl, rfl⟩
      go_wp2
      go_ret
      exact ⟨rfl, rfl⟩
  · rw [b1] at e1
    clear b1
    go_enter Tryz.func97, Tryz.ntmps97
    go_wp2
    go_ret
    exact ⟨rfl, rfl⟩
theorem nofiles_any (w : World) : Calls Tryz.prog 78 #[] w fun e w' => ∃ b', e = .returned (.agg #[.map (some b'), .int .i64 0]) ∧ w.heap.size ≤ b' ∧ Files w' b' [] ∧ Grows w w' := by
  have hmm := @run_makeMap Tryz.prog
  go_enter Tryz.func78, Tryz.ntmps78
  go_wp2_with fail
  have hbox := (Has.new w 105 [.map (some (w.heap.size + 1)), .int .i64 0])
  have hsz : (w.alloc (.cells [Value.map (some (w.heap.size + 1)), Value.int IntKind.i64 0].toArray 105)).heap.size = w.heap.size + 1 := by simp
  have hf := Files.new (w.alloc (.cells [Value.map (some (w.heap.size + 1)), Value.int IntKind.i64 0].toArray 105))
  rw [hsz] at hf
  refine bodyPost_ret (res_has (vs := [.map (some (w.heap.size + 1)), .int .i64 0]) rfl _ rfl Tryz.underlying105 rfl (by kernel_rfl) (hbox.later (grows_alloc _ _))) rfl ?_
  exact ⟨_, rfl, Nat.le_succ _, hf, Grows.trans (grows_alloc _ _) (grows_alloc _ _)⟩
end Go.Proofs.YtbcldknecdbemaaGreatDoor

/-
  Values that lie in blocks of which something is known (of no program).
-/
namespace Go.Proofs.YtbcldknecdbemaaGreatDoor
open Go.RowKit
set_option linter.unusedVariables false
set_option maxRecDepth 20000

theorem cutA_lies {w : World} {B : Nat} {A : Option Addr} {vs : List Value} (h : Lies w B A vs) {c m : Nat} (hc : vs.length ≤ c) : Lies w B (cutA A c m 1) (vs.drop m) := by
  unfold cutA
  by_cases hcm : c = m
  · rw [if_pos hcm, List.drop_eq_nil_of_le (by omega)]; exact Lies.empty
  · rw [if_neg hcm, Nat.mul_one]; exact h.from_ m
/-- Values lie in blocks that are ok. -/
def LiesIn (ok : Nat → Prop) (w : World) (A : Option Addr) (vs : List Value) : Prop := ∀ (j : Nat) (u : Value), vs[j]? = some u → ∃ ad : Addr, A = some ad ∧ ok ad.block ∧ w.cell? (ad.add j) = some u
section
variable {ok S : Nat → Prop} {w w' : World} {A : Option Addr} {vs : List Value}
theorem LiesIn.lies (h : LiesIn ok w A vs) {B : Nat} (hB : ∀ k, ok k → k < B) : Lies w B A vs := fun j u hu => let ⟨ad, e, ho, hc⟩ := h j u hu; ⟨ad, e, hB _ ho, hc⟩
theorem LiesIn.of_lies {B : Nat} (h : Lies w B A vs) (hB : ∀ k, k < B → ok k) : LiesIn ok w A vs := fun j u hu => let ⟨ad, e, ho, hc⟩ := h j u hu; ⟨ad, e, hB _ ho, hc⟩
theorem LiesIn.turned (h : LiesIn ok w A vs) (ht : Turns S w w') (hS : ∀ k, ok k → ¬ S k) : LiesIn ok w' A vs := fun j u hu => let ⟨ad, e, ho, hc⟩ := h j u hu; ⟨ad, e, ho, ht.cell hc (by rw [add_block]; exact hS _ ho)⟩
theorem LiesIn.later (h : LiesIn ok w A vs) (hg : Grows w w') : LiesIn ok w' A vs := fun j u hu => let ⟨ad, e, ho, hc⟩ := h j u hu; ⟨ad, e, ho, hcell_later hc hg⟩
theorem LiesIn.take (h : LiesIn ok w A vs) (k : Nat) : LiesIn ok w A (vs.take k) := fun j u hu => h j u (by
  have := (List.getElem?_eq_some_iff.1 hu).1
  rw [List.length_take] at this
  rwa [List.getElem?_take_of_lt (by omega)] at hu)
theorem LiesIn.cutA (h : LiesIn ok w A vs) {c m : Nat} (hc : vs.length ≤ c) : LiesIn ok w (cutA A c m 1) (vs.drop m) := by
  unfold Go.Proofs.YtbcldknecdbemaaGreatDoor.cutA
  by_cases hcm : c = m
  · rw [if_pos hcm, List.drop_eq_nil_of_le (by omega)]; exact fun j u hu => by simp at hu
  · rw [if_neg hcm, Nat.mul_one]
    intro j u hu
    rw [List.getElem?_drop] at hu
    obtain ⟨ad, rfl, ho, hcl⟩ := h _ u hu
    exact ⟨ad.add m, rfl, by rw [add_block]; exact ho, by rw [add_add_addr]; exact hcl⟩
theorem LiesIn.of_own {base : Nat} {e : TypeId} {n c : Nat} (h : w.ownsRow base e 1 (.slice A n c) n vs) : LiesIn (fun k => base ≤ k ∧ k < w.heap.size) w A vs := fun j u hu => by
  obtain ⟨ad, e1, h1, h2⟩ := Lies.of_own h j u hu
  have hn : 0 < n := by
    have h3 := (List.getElem?_eq_some_iff.1 hu).1
    have h4 := h.1
    omega
  obtain ⟨g, c', e2, _, _, h5, _⟩ := own_has h hn
  subst e1
  injection e2 with e2
  injection e2 with e2
  subst e2
  exact ⟨_, rfl, ⟨h5, h1⟩, h2⟩
end
end Go.Proofs.YtbcldknecdbemaaGreatDoor

/-
  disk's own: take: a change is made.
-/
namespace Go.Proofs.YtbcldknecdbemaaGreatDoor
open Go.RowKit
set_option linter.unusedVariables false
set_option maxRecDepth 20000

/-- A change as a value of the interface. -/
def cv : Chg → Value
  | .wr p d => .iface 136 (.agg #[tv p, tv d])
  | .rn p q => .iface 140 (.agg #[tv p, tv q])
  | .rm p => .iface 125 (.agg #[tv p])
/-- disk.always, as a value. -/
abbrev alwaysV : Value := .func (.func 101) #[] #[]

theorem as_ww (v : Value) (w : World) : (Instr.typeAssert (.iface 136 v) 110 136 true).run Tryz.prog w = .ok (.tuple #[v, .bool true]) w := by kernel_rfl
theorem as_nw (v : Value) (w : World) : (Instr.typeAssert (.iface 140 v) 110 136 true).run Tryz.prog w = .ok (.tuple #[.agg #[tv [], tv []], .bool false]) w := by kernel_rfl
theorem as_mw (v : Value) (w : World) : (Instr.typeAssert (.iface 125 v) 110 136 true).run Tryz.prog w = .ok (.tuple #[.agg #[tv [], tv []], .bool false]) w := by kernel_rfl
theorem as_nn (v : Value) (w : World) : (Instr.typeAssert (.iface 140 v) 110 140 true).run Tryz.prog w = .ok (.tuple #[v, .bool true]) w := by kernel_rfl
theorem as_mn (v : Value) (w : World) : (Instr.typeAssert (.iface 125 v) 110 140 true).run Tryz.prog w = .ok (.tuple #[.agg #[tv [], tv []], .bool false]) w := by kernel_rfl
theorem as_mm (v : Value) (w : World) : (Instr.typeAssert (.iface 125 v) 110 125 true).run Tryz.prog w = .ok (.tuple #[v, .bool true]) w := by kernel_rfl

section
variable (a o b : Nat) (S : Fls) (vs : List Value) (w : World)
set_option maxHeartbeats 1000000 in
theorem take_rm (fv : Value) (p : Byts) (h : FAt w a o b S vs) (hu : fUsed S ≤ 1000000000) : Calls Tryz.prog 65 #[.pointer (some ⟨a, o, none⟩), cv (.rm p), fv] w fun e w' => e = .returned (.tuple #[]) ∧
    FAt w' a o b (mkF S (.rm p)) (vs.set (o + 1) (.int .i64 (fUsed (mkF S (.rm p)) : Int))) ∧ Turns (AB a b) w w' := by
  have hD := fun u (hu' : Grows w u) => fdrop_any a o b S vs p u (h.later hu') hu
  have q1 := as_mw; have q2 := as_mn; have q3 := as_mm
  unfold cv
  show Calls _ _ _ _ fun e w' => _ ∧ FAt w' a o b (fDel S p) _ ∧ _
  go_enter Tryz.func65, Tryz.ntmps65
  go_wp2_with fail
  refine (hD _ (grows_alloc _ _)).mono ?_
  rintro e w1 ⟨rfl, h1, t1⟩
  go_wp2_with fail
  go_end0
  exact ⟨rfl, h1, (Turns.of_grows (grows_alloc _ _)).trans t1⟩
theorem fself {w : World} {a o b : Nat} {S : Fls} {vs : List Value} (h : FAt w a o b S vs) : vs.set (o + 1) (.int .i64 (fUsed S : Int)) = vs := by
  apply List.ext_getElem?
  intro i
  by_cases hi : o + 1 = i
  · subst hi; rw [List.getElem?_set_self h.below, h.used]
  · rw [List.getElem?_set_ne hi]
set_option maxHeartbeats 1000000 in
theorem take_rn (fv : Value) (p q : Byts) (h : FAt w a o b S vs) (hu : fUsed S ≤ 1000000000) : Calls Tryz.prog 65 #[.pointer (some ⟨a, o, none⟩), cv (.rn p q), fv] w fun e w' => e = .returned (.tuple #[]) ∧
    FAt w' a o b (mkF S (.rn p q)) (vs.set (o + 1) (.int .i64 (fUsed (mkF S (.rn p q)) : Int))) ∧ Turns (AB a b) w w' := by
  have hD := fun u (hu' : Grows w u) => fdrop_any a o b S vs p u (h.later hu') hu
  have hH := fun u (hu' : Grows w u) => fhas_any a o b S vs p u (h.later hu')
  have q1 := as_nw; have q2 := as_nn
  have hue := used_del h.files.nodup p
  rw [show cv (.rn p q) = .iface 140 (.agg #[tv p, tv q]) from rfl]
  have hself := fself h
  cases hg : fGet S p with
  | none =>
    rw [show mkF S (.rn p q) = S by simp [mkF, hg], hself]
    rw [hg] at hH
    simp only [Option.isSome_none] at hH
    clear hue hg hD hself
    go_enter Tryz.func65, Tryz.ntmps65
    go_wp2_with fail
    refine (hH _ (grows_alloc _ _)).mono ?_
    rintro e w1 ⟨rfl, rfl⟩
    go_wp2_with fail
    go_end0
    exact ⟨rfl, h.later (grows_alloc _ _), Turns.of_grows (grows_alloc _ _)⟩
  | some d =>
    rw [hg] at hH hue
    simp only [Option.isSome_some] at hH
    have hgu : ∀ u, Grows w u → (Instr.lookup 103 (.map (some b)) (tv p) false).run Tryz.prog u = .ok (tv d) u := fun u hu => by
      have := get_any b S p u (h.files.later hu) false
      rw [hg] at this
      simpa using this
    rw [show mkF S (.rn p q) = fPut (fDel S p) q d by simp [mkF, hg]]
    simp only [Option.getD_some] at hue
    have HU := Lib.hid hue
    have hbox := Has.new w 140 [tv p, tv q]
    have hga := grows_alloc w (.cells [tv p, tv q].toArray 140)
    clear hue hg hself
    go_enter Tryz.func65, Tryz.ntmps65
    go_wp2_with fail
    refine (hH _ hga).mono ?_
    rintro e w1 ⟨rfl, rfl⟩
    go_wp2_with fail
    change Code.wp _ _ _ _ (w.alloc (.cells [tv p, tv q].toArray 140))
    have hlt := h.has.lt
    have hltb := h.files.lt
    generalize w.alloc (.cells [tv p, tv q].toArray 140) = w1 at *
    generalize w.heap.size = B at *
    have c0 : ∀ u, Grows w1.drew u → u.cell? ⟨a, o, none⟩ = some (.map (some b)) := fun u hu => (h.has.later (Grows.trans hga (Grows.trans (Grows.refl w1).drew hu))).cell h.map
    have c1 : ∀ u, Grows w1.drew u → u.cell? ⟨B, 0, none⟩ = some (tv p) := fun u hu => (hbox.later (Grows.trans (Grows.refl w1).drew hu)).cell rfl
    have hg2 : ∀ u, Grows w1.drew u → (Instr.lookup 103 (.map (some b)) (tv p) false).run Tryz.prog u = .ok (tv d) u := fun u hu => hgu u (Grows.trans hga (Grows.trans (Grows.refl w1).drew hu))
    have hgd := (Grows.refl w1).drew
    refine wp_region_ord 8 [(0, true), (1, true), (2, true), (3, true), (4, true), (5, true), (6, true), (7, true)] (by kernel_rfl) (by kernel_rfl) ?_
    have hO := Grows.refl w1.drew
    generalize hwd : w1.drew = wd at *
    clear hwd
    repeat (first | (refine ord_take hO _ ?_ (by simp only [List.getElem?_cons_succ, List.getElem?_cons_zero]; rfl) (by rfl) ?_ ?_; rotate_left; (· (intro u hu0 hu; (try go_simp); (try with_reducible rfl))); try simp only [Act.put, List.setIfInBounds_toArray, List.set_cons_zero, List.set_cons_succ]) | (refine ord_skip _ (by simp only [List.getElem?_cons_succ, List.getElem?_cons_zero]; rfl) (by rfl) ?_; try simp only [Act.put, List.setIfInBounds_toArray, List.set_cons_zero, List.set_cons_succ]))
    refine ord_done (fun u hu1 => ?_); simp only [List.drop_succ_cons, List.drop_zero]
    have hgw : Grows w u := Grows.trans hga (Grows.trans hgd hu1)
    have hbu := hbox.later (Grows.trans hgd hu1)
    have cp := hbu.cell (k := 0) rfl
    have cq := hbu.cell (k := 1) rfl
    clear c0 c1 hg2
    go_wp2_with fail
    refine NoPanic.normal ?_
    go_wp2_with fail
    refine (hD u hgw).mono ?_
    rintro e w2 ⟨rfl, h2, t2⟩
    have hb2 := hbu.turned t2 (fun e => e.elim (fun e => by omega) (fun e => by omega))
    have cq2 := hb2.cell (k := 1) rfl
    have hP := fput_any a o b (fDel S p) _ q w2 d h2 (by have := HU.out; omega)
    rw [set_set1] at hP
    go_wp2_with fail
    refine hP.mono ?_
    rintro e w3 ⟨rfl, h3, t3⟩
    go_wp2_with fail
    go_end0
    exact ⟨rfl, h3, (Turns.of_grows hgw).trans (t2.trans t3)⟩
set_option maxHeartbeats 1000000 in
theorem take_wr (p d : Byts) (h : FAt w a o b S vs) (hu : fUsed S + d.length ≤ 1000000000) : Calls Tryz.prog 65 #[.pointer (some ⟨a, o, none⟩), cv (.wr p d), alwaysV] w fun e w' => e = .returned (.tuple #[]) ∧
    FAt w' a o b (mkF S (.wr p d)) (vs.set (o + 1) (.int .i64 (fUsed (mkF S (.wr p d)) : Int))) ∧ Turns (AB a b) w w' := by
  have hP := fun u (hu' : Grows w u) => fput_any a o b S vs p u d (h.later hu') hu
  have q1 := as_ww
  have hA := always_any
  rw [show cv (.wr p d) = .iface 136 (.agg #[tv p, tv d]) from rfl, show mkF S (.wr p d) = fPut S p d from rfl]
  unfold alwaysV
  have hga := grows_alloc w (.cells [tv p, tv d].toArray 136)
  have hbox := Has.new w 136 [tv p, tv d]
  go_enter Tryz.func65, Tryz.ntmps65
  go_wp2_with fail
  refine (hA _).mono ?_
  rintro e w1 ⟨rfl, rfl⟩
  go_wp2_with fail
  refine (hP _ hga).mono ?_
  rintro e w3 ⟨rfl, h3, t3⟩
  go_wp2_with fail
  go_end0
  exact ⟨rfl, h3, (Turns.of_grows hga).trans t3⟩
end

/-- Bits that are told one by one: what is left of them lies in box k. -/
def Bits (w : World) (k : Nat) (ok : Nat → Prop) (ks : List Bool) : Prop := ∃ A n c, Has w k [.slice A n c] ∧ ks.length = n ∧ n ≤ c ∧ LiesIn ok w A (ks.map .bool)
theorem Bits.turned {w w' : World} {k : Nat} {ok Q : Nat → Prop} {ks : List Bool} (h : Bits w k ok ks) (ht : Turns Q w w') (h1 : ¬ Q k) (h2 : ∀ i, ok i → ¬ Q i) : Bits w' k ok ks := by
  obtain ⟨A, n, c, a1, a2, a3, a4⟩ := h
  exact ⟨A, n, c, a1.turned ht h1, a2, a3, a4.turned ht h2⟩
theorem Bits.later {w w' : World} {k : Nat} {ok : Nat → Prop} {ks : List Bool} (h : Bits w k ok ks) (hg : Grows w w') : Bits w' k ok ks := by
  obtain ⟨A, n, c, a1, a2, a3, a4⟩ := h
  exact ⟨A, n, c, a1.later hg, a2, a3, a4.later hg⟩
theorem bool_size : (Tryz.prog.info? 4).map (·.size) = some 1 := by kernel_rfl
set_option maxHeartbeats 1000000 in
theorem next1_any (k : Nat) (ok : Nat → Prop) (ks : List Bool) (w : World) (h : Bits w k ok ks) (hk : ¬ ok k) : Calls Tryz.prog 64 #[.pointer (some ⟨k, 0, none⟩)] w fun e w' => e = .returned (.bool (ks.headD false)) ∧ Bits w' k ok ks.tail ∧ Turns (fun i => i = k) w w' := by
  obtain ⟨A, n, c, hb, hn, hc, hl⟩ := h
  have c0 := hb.cell (k := 0) rfl
  cases ks with
  | nil =>
    simp at hn
    subst hn
    go_enter Tryz.func64, Tryz.ntmps64
    go_wp2
    go_ret
    exact ⟨rfl, ⟨A, 0, c, hb, rfl, hc, hl⟩, Turns.refl _ _⟩
  | cons x r =>
    obtain ⟨ad, rfl, hok, hcl⟩ := hl 0 (.bool x) rfl
    rw [add_zero_eq] at hcl
    have hpos : 1 ≤ n := by rw [← hn]; simp
    have hct : ∀ u, (Instr.sliceAt 28 (.slice (some ad) n c) (some (.int .i64 1)) none none).run Tryz.prog u = .ok (.slice (cutA (some ad) c 1 1) (n - 1) (c - 1)) u := fun u => run_cutK_from (P := Tryz.prog) (t := 28) (e := 4) Tryz.underlying28 bool_size (some ad) n c 1 .i64 hpos hc u
    have d1 : ((n : Int) == 0) = false := by simp; omega
    have f0 := hb.free 0
    have hl2 := hl.cutA (c := c) (m := 1) (by simp at hn ⊢; omega)
    generalize cutA (some ad) c 1 1 = A2 at *
    go_enter Tryz.func64, Tryz.ntmps64
    go_wp2
    go_ret
    refine ⟨rfl, ⟨A2, n - 1, c - 1, hb.set_ (k := 0) (by simp) _, by simp at hn ⊢; omega, by omega, hl2.turned (Turns.of_set (S := fun i => i = k) w _ rfl) (fun i hi e => hk (by rw [← e]; exact hi))⟩, Turns.of_set w _ rfl⟩
end Go.Proofs.YtbcldknecdbemaaGreatDoor

/-
  disk's own: a write that is made by what the bits tell; spend, do, Up.
-/
namespace Go.Proofs.YtbcldknecdbemaaGreatDoor
open Go.RowKit
set_option linter.unusedVariables false
set_option maxRecDepth 20000

/-- What tells the next bit, as a value: it holds what is left in box k. -/
abbrev nextV (k : Nat) : Value := .func (.func 64) #[] #[.pointer (some ⟨k, 0, none⟩)]
/-- The three blocks. -/
def ABK (a b k : Nat) (i : Nat) : Prop := i = a ∨ i = b ∨ i = k
section
variable (a o b k : Nat) (S : Fls) (vs : List Value) (w : World) (ok : Nat → Prop) (ks : List Bool)
set_option maxHeartbeats 2000000 in
theorem take_wn (p d : Byts) (h : FAt w a o b S vs) (hu : fUsed S + d.length ≤ 100000000) (hK : Bits w k ok ks) (hk : ¬ ok k) (ka : k ≠ a) (kb : k ≠ b) (hab : ∀ i, ok i → i ≠ a ∧ i ≠ b) (hok : ∀ i, ok i → i < w.heap.size) :
    Calls Tryz.prog 65 #[.pointer (some ⟨a, o, none⟩), cv (.wr p d), nextV k] w fun e w' => e = .returned (.tuple #[]) ∧
    FAt w' a o b (fPut S p (if ks.headD false = true then d else halfB d)) (vs.set (o + 1) (.int .i64 (fUsed (fPut S p (if ks.headD false = true then d else halfB d)) : Int))) ∧ Bits w' k ok ks.tail ∧ Turns (ABK a b k) w w' := by
  have hP := fun u (h' : FAt u a o b S vs) d (hu : fUsed S + d.length ≤ 1000000000) => fput_any a o b S vs p u d h' hu
  have q1 := as_ww
  rw [show cv (.wr p d) = .iface 136 (.agg #[tv p, tv d]) from rfl]
  unfold nextV
  have hga := grows_alloc w (.cells [tv p, tv d].toArray 136)
  have hbox := Has.new w 136 [tv p, tv d]
  have hN := next1_any k ok ks _ (hK.later hga) hk
  have hsz := size_mk d
  have hl1 := h.has.lt
  have hl2 := h.files.lt
  have hl3 : k < w.heap.size := by obtain ⟨A, n, c, hb, _⟩ := hK; exact hb.lt
  cases hx : ks.headD false with
  | true =>
    rw [hx] at hN
    simp only [if_true]
    go_enter Tryz.func65, Tryz.ntmps65
    go_wp2_with fail
    change Calls _ _ _ (w.alloc (.cells [tv p, tv d].toArray 136)) _
    generalize w.alloc (.cells [tv p, tv d].toArray 136) = w1 at *
    generalize hBe : w.heap.size = B at *
    have hBw := Lib.hid (Nat.le_of_eq hBe)
    clear hBe
    refine hN.mono ?_
    rintro e w2 ⟨rfl, hb2, t2⟩
    have hx2 := hbox.turned t2 (by omega)
    have c0 := hx2.cell (k := 0) rfl
    have c1 := hx2.cell (k := 1) rfl
    have h2 := (h.later hga).turned t2 (fun e => ka e.symm) (fun e => kb e.symm)
    go_wp2_with fail
    refine (hP w2 h2 d (by omega)).mono ?_
    rintro e w3 ⟨rfl, h3, t3⟩
    go_wp2_with fail
    go_end0
    refine ⟨rfl, h3, hb2.turned t3 (fun e => e.elim ka kb) (fun i hi e => e.elim (hab i hi).1 (hab i hi).2), ?_⟩
    exact (Turns.of_grows hga).trans ((t2.mono fun i _ e => .inr (.inr e)).trans (t3.mono fun i _ e => e.elim .inl (fun e => .inr (.inl e))))
  | false =>
    rw [hx] at hN
    simp only [Bool.false_eq_true, if_false]
    have hq : (d.length : Int).tdiv 2 = ((d.length / 2 : Nat) : Int) := by rw [Int.tdiv_eq_ediv_of_nonneg (by omega)]; omega
    have he : (⟨d.toArray⟩ : ByteArray).extract 0 (d.length / 2) = ⟨(halfB d).toArray⟩ := by rw [tcut]; simp [halfB]
    have hhl : (halfB d).length ≤ d.length := by simp [halfB]; omega
    go_enter Tryz.func65, Tryz.ntmps65
    go_wp2_with fail
    change Calls _ _ _ (w.alloc (.cells [tv p, tv d].toArray 136)) _
    generalize w.alloc (.cells [tv p, tv d].toArray 136) = w1 at *
    generalize hBe : w.heap.size = B at *
    have hBw := Lib.hid (Nat.le_of_eq hBe)
    clear hBe
    refine hN.mono ?_
    rintro e w2 ⟨rfl, hb2, t2⟩
    have hx2 := hbox.turned t2 (by omega)
    have c0 := hx2.cell (k := 0) rfl
    have c1 := hx2.cell (k := 1) rfl
    have h2 := (h.later hga).turned t2 (fun e => ka e.symm) (fun e => kb e.symm)
    go_wp2_with fail
    rw [he]
    refine (tclone_any (halfB d) w2 (by omega)).mono ?_
    rintro e w3 ⟨rfl, hg3⟩
    have hx3 := hx2.later hg3
    have f1 := hx3.free 1
    have c3o := hx3.cell (k := 1) rfl
    have h3 := (h2.later hg3).turned (Turns.of_set (S := fun i => i = B) (b := B) (o := 1) w3 (tv (halfB d)) rfl) (by omega) (by omega)
    have hx4 := hx3.set_ (k := 1) (by simp) (tv (halfB d))
    have c30 := hx4.cell (k := 0) rfl
    have c31 := hx4.cell (k := 1) rfl
    have hb3 := (hb2.later hg3).turned (Turns.of_set (S := fun i => i = B) (b := B) (o := 1) w3 (tv (halfB d)) rfl) (by omega) (fun i hi e => by have := hok i hi; omega)
    have t3 : Turns (ABK a b k) w (w3.setCell ⟨B, 1, none⟩ (tv (halfB d))) := (((Turns.of_grows hga).trans (t2.mono fun i _ e => .inr (.inr e))).trans (Turns.of_grows hg3)).then_ (Turns.of_set (S := fun i => i = B) (b := B) (o := 1) w3 (tv (halfB d)) rfl) (fun i hi e => absurd hi (by have := hBw.out; omega))
    have hp3 := hP _ h3 (halfB d) (by omega)
    clear hx3 hx2 hx4
    go_wp2_with fail
    refine hp3.mono ?_
    rintro e w5 ⟨rfl, h5, t5⟩
    go_wp2_with fail
    go_end0
    exact ⟨rfl, h5, hb3.turned t5 (fun e => e.elim ka kb) (fun i hi e => e.elim (hab i hi).1 (hab i hi).2), t3.trans (t5.mono fun i _ e => e.elim .inl (fun e => .inr (.inl e)))⟩
end
end Go.Proofs.YtbcldknecdbemaaGreatDoor

/-
  disk: a disk in memory; Up, Used, Waits, Power, spend, do.
-/
namespace Go.Proofs.YtbcldknecdbemaaGreatDoor
open Go.RowKit
set_option linter.unusedVariables false
set_option maxRecDepth 20000

def dcells (D : Dk) (x : Int) (bs bl : Nat) (v : Value) : List Value := [.int .i64 D.room, .int .i64 x, .map (some bs), .int .i64 (fUsed D.seen : Int), .map (some bl), .int .i64 (fUsed D.lasts : Int), v]
/-- The disk D lies at block a; its maps in bs and bl, what waits in v. -/
structure DiskX (w : World) (a bs bl : Nat) (v : Value) (x : Int) (D : Dk) : Prop where
  has : Has w a (dcells D x bs bl v)
  pow : max x (-1) = D.power
  lo : -9223372036854775808 ≤ x
  hi : x ≤ 9223372036854775807
  seen : Files w bs D.seen
  lasts : Files w bl D.lasts
  row : w.ownsRow 0 110 1 v D.waits.length (D.waits.map cv)
  ne1 : a ≠ bs
  ne2 : a ≠ bl
  ne3 : bs ≠ bl
  nv : ∀ g, v.ownBlock = some g → g ≠ a ∧ g ≠ bs ∧ g ≠ bl
  ok : D.Ok
/-- A disk's blocks. -/
def Foot (a bs bl : Nat) (v : Value) (k : Nat) : Prop := k = a ∨ k = bs ∨ k = bl ∨ v.ownBlock = some k
section
variable {w w' : World} {a bs bl : Nat} {v : Value} {x : Int} {D : Dk} {Q : Nat → Prop}
theorem DiskX.turned (h : DiskX w a bs bl v x D) (ht : Turns Q w w') (hn : ∀ k, Foot a bs bl v k → ¬ Q k) : DiskX w' a bs bl v x D :=
  ⟨h.has.turned ht (hn a (.inl rfl)), h.pow, h.lo, h.hi, h.seen.turned ht (hn _ (.inr (.inl rfl))), h.lasts.turned ht (hn _ (.inr (.inr (.inl rfl)))),
    own_turned h.row ht (fun g hg => hn g (.inr (.inr (.inr hg)))), h.ne1, h.ne2, h.ne3, h.nv, h.ok⟩
theorem DiskX.later (h : DiskX w a bs bl v x D) (hg : Grows w w') : DiskX w' a bs bl v x D := h.turned (Q := fun _ => False) (Turns.of_grows hg) (fun _ _ e => e)
theorem own_lt {base : Nat} {e : TypeId} {n : Nat} {xs : List Value} (h : w.ownsRow base e 1 v n xs) {g : Nat} (hg : v.ownBlock = some g) : g < w.heap.size := by
  rcases h.2 with ⟨rfl, _⟩ | ⟨g', cap, cur, rfl, _, hb, _⟩
  · simp [Value.ownBlock] at hg
  · obtain rfl : g' = g := by simpa [Value.ownBlock] using hg
    exact (Array.getElem?_eq_some_iff.1 hb).1
theorem DiskX.lt (h : DiskX w a bs bl v x D) : ∀ k, Foot a bs bl v k → k < w.heap.size := by
  rintro k (rfl | rfl | rfl | hk)
  · exact h.has.lt
  · exact h.seen.lt
  · exact h.lasts.lt
  · exact own_lt h.row hk
theorem DiskX.fs (h : DiskX w a bs bl v x D) : FAt w a 2 bs D.seen (dcells D x bs bl v) := ⟨h.has, rfl, rfl, h.seen, h.ne1⟩
theorem DiskX.fl (h : DiskX w a bs bl v x D) : FAt w a 4 bl D.lasts (dcells D x bs bl v) := ⟨h.has, rfl, rfl, h.lasts, h.ne2⟩
theorem DiskX.down (h : DiskX w a bs bl v x D) : decide (x ≠ 0) = decide (D.power ≠ 0) := by
  have := h.pow
  rw [Bool.eq_iff_iff]
  simp only [decide_eq_true_eq]
  omega
end
theorem cv_one (c : Chg) : (cv c).oneCell' = true := by cases c <;> rfl
theorem chg_info : (Tryz.prog.info? 110).map (fun i => (i.zero, i.size, i.bytes)) = some (some .nilIface, 1, 16) := by kernel_rfl
theorem dtake_any (a o b : Nat) (S : Fls) (vs : List Value) (w : World) (c : Chg) (h : FAt w a o b S vs) (hu : fUsed S + c.data ≤ 1000000000) : Calls Tryz.prog 65 #[.pointer (some ⟨a, o, none⟩), cv c, alwaysV] w fun e w' => e = .returned (.tuple #[]) ∧
    FAt w' a o b (mkF S c) (vs.set (o + 1) (.int .i64 (fUsed (mkF S c) : Int))) ∧ Turns (AB a b) w w' := by
  cases c with
  | wr p d => exact take_wr a o b S vs w p d h hu
  | rn p q => exact take_rn a o b S vs w _ p q h (by simp [Chg.data] at hu; omega)
  | rm p => exact take_rm a o b S vs w _ p h (by simp [Chg.data] at hu; omega)

section
variable (a bs bl : Nat) (v : Value) (x : Int) (D : Dk) (w : World)
theorem up_any (h : DiskX w a bs bl v x D) : Calls Tryz.prog 42 #[.pointer (some ⟨a, 0, none⟩)] w fun e w' => e = .returned (.bool !(decide (D.power = 0))) ∧ w' = w := by
  have c1 := h.has.cell (k := 1) rfl
  have hd : (!(x == 0)) = !(decide (D.power = 0)) := by
    have := h.pow
    rw [Bool.eq_iff_iff]
    simp
    omega
  rw [← hd]
  clear hd
  go_enter Tryz.func42, Tryz.ntmps42
  go_wp2
  go_ret
  exact ⟨rfl, rfl⟩
theorem used_any (h : DiskX w a bs bl v x D) : Calls Tryz.prog 43 #[.pointer (some ⟨a, 0, none⟩)] w fun e w' => e = .returned (.int .i64 (fUsed D.seen : Int)) ∧ w' = w := by
  have c1 := h.has.cell (k := 3) rfl
  go_enter Tryz.func43, Tryz.ntmps43
  go_wp2
  go_ret
  exact ⟨rfl, rfl⟩
theorem waits_any (h : DiskX w a bs bl v x D) : Calls Tryz.prog 21 #[.pointer (some ⟨a, 0, none⟩)] w fun e w' => e = .returned (.int .i64 (D.waits.length : Int)) ∧ w' = w := by
  have c1 := h.has.cell (k := 6) rfl
  obtain ⟨A, c, rfl, _⟩ := own_form h.row
  go_enter Tryz.func21, Tryz.ntmps21
  go_wp2
  go_ret
  exact ⟨rfl, rfl⟩
theorem power_any (n : Int) (h : DiskX w a bs bl v x D) (hn : -9223372036854775808 ≤ n ∧ n ≤ 9223372036854775807) : Calls Tryz.prog 24 #[.pointer (some ⟨a, 0, none⟩), .int .i64 n] w fun e w' => e = .returned (.tuple #[]) ∧ DiskX w' a bs bl v n { D with power := max n (-1) } ∧ Turns (fun k => k = a) w w' := by
  have c1 := h.has.cell (k := 1) rfl
  have f1 := h.has.free 1
  go_enter Tryz.func24, Tryz.ntmps24
  go_wp2
  go_end0
  have ht : Turns (fun k => k = a) w (w.setCell ⟨a, 1, none⟩ (.int .i64 n)) := Turns.of_set w _ rfl
  exact ⟨rfl, ⟨h.has.set_ (k := 1) (by simp [dcells]) _, rfl, hn.1, hn.2, h.seen.turned ht (fun e => h.ne1 e.symm), h.lasts.turned ht (fun e => h.ne2 e.symm), own_turned h.row ht (fun g hg => (h.nv g hg).1), h.ne1, h.ne2, h.ne3, h.nv, ⟨h.ok.lasts, h.ok.seen⟩⟩, ht⟩
/-- What is left behind a call that is done. -/
def spX (x : Int) : Int := if 0 < x then x - 1 else x
theorem spend_any (h : DiskX w a bs bl v x D) : Calls Tryz.prog 102 #[.pointer (some ⟨a, 0, none⟩)] w fun e w' => e = .returned (.tuple #[]) ∧ DiskX w' a bs bl v (spX x) D.spent ∧ Turns (fun k => k = a) w w' := by
  have c1 := h.has.cell (k := 1) rfl
  have f1 := h.has.free 1
  have hp := h.pow
  have hlo := h.lo
  have hhi := h.hi
  by_cases h0 : 0 < x
  · have d1 : decide (x > 0) = true := by simpa using h0
    have hw : wrap64 (x - 1) = x - 1 := by unfold wrap64; omega
    have hs : spX x = x - 1 := if_pos h0
    have hD : D.spent.power = x - 1 := by show (if 0 < D.power then D.power - 1 else D.power) = x - 1; rw [if_pos (by omega)]; omega
    clear hp
    go_enter Tryz.func102, Tryz.ntmps102
    go_wp2
    go_end0
    rw [hs]
    have ht : Turns (fun k => k = a) w (w.setCell ⟨a, 1, none⟩ (.int .i64 (x - 1))) := Turns.of_set w _ rfl
    exact ⟨rfl, ⟨h.has.set_ (k := 1) (by simp [dcells]) _, by rw [hD]; omega, by omega, by omega, h.seen.turned ht (fun e => h.ne1 e.symm), h.lasts.turned ht (fun e => h.ne2 e.symm), own_turned h.row ht (fun g hg => (h.nv g hg).1), h.ne1, h.ne2, h.ne3, h.nv, h.ok.spent⟩, ht⟩
  · have d1 : decide (x > 0) = false := by simpa using h0
    have hs : spX x = x := if_neg h0
    have hD : D.spent = D := by
      show ({ D with power := if 0 < D.power then D.power - 1 else D.power } : Dk) = D
      rw [if_neg (by omega)]
    rw [hs, hD]
    clear hp hs hD
    go_enter Tryz.func102, Tryz.ntmps102
    go_wp2
    go_end0
    exact ⟨rfl, h, Turns.refl _ _⟩
set_option maxHeartbeats 2000000 in
theorem do_any (c : Chg) (h : DiskX w a bs bl v x D) (hu : fUsed D.seen + c.data ≤ 1000000000) (hn : D.waits.length ≤ 1000000) :
    Calls Tryz.prog 81 #[.pointer (some ⟨a, 0, none⟩), cv c] w fun e w' => ∃ v', e = .returned (.tuple #[]) ∧ DiskX w' a bs bl v' (spX x) (D.do_ c) ∧ Turns (Foot a bs bl v) w w' ∧ ∀ g, v'.ownBlock = some g → v.ownBlock = some g ∨ w.heap.size ≤ g := by
  have hT := dtake_any a 2 bs D.seen _ w c h.fs hu
  obtain ⟨i0, hi0, hz0, hz1, hz2⟩ := info_parts chg_info
  have hone := cv_one c
  obtain ⟨zt, zu, hz⟩ : ∃ t u, cv c = .iface t u := by cases c <;> exact ⟨_, _, rfl⟩
  have HZ := Lib.hid hz
  rw [hz] at hT hone ⊢
  clear hz
  go_enter Tryz.func81, Tryz.ntmps81
  go_wp2_with fail
  refine hT.mono ?_
  rintro e w1 ⟨rfl, h1, t1⟩
  have b1 : Has w1 a [.int .i64 D.room, .int .i64 x, .map (some bs), .int .i64 (fUsed (mkF D.seen c) : Int), .map (some bl), .int .i64 (fUsed D.lasts : Int), v] := h1.has
  have c6 := b1.cell (k := 6) rfl
  have f6 := b1.free 6
  have r1 := own_turned h.row t1 (fun g hg e => e.elim (h.nv g hg).1 (h.nv g hg).2.1)
  have hnew := Lies.new w1 110 [.iface zt zu]
  have hga := grows_alloc w1 (.cells #[.iface zt zu] 110)
  have b1a := b1.later hga
  have r1a := own_later r1 hga
  have hsz : w1.heap.size ≤ (w1.alloc (.cells #[.iface zt zu] 110)).heap.size := hga.size
  have hs1 : (w1.alloc (.cells #[.iface zt zu] 110)).heap.size = w1.heap.size + 1 := by simp
  have HS := Lib.hid hs1
  have hal : a < w1.heap.size := b1.lt
  clear hs1 hsz
  go_wp2_with (at_builtin; refine wpList_append_src _ rfl (.tmp 13) (.tmp 15) _ rfl 0 110 i0 _ 16 Tryz.underlying106 hi0 hz0 hz1 hz2 rfl v D.waits.length _ rfl r1a _ _ 1 1 [.iface zt zu] rfl rfl hnew (by intro u hu; simp at hu; subst hu; exact hone) (by unfold maxLen; omega) (by omega) (Nat.zero_le _) ?_; intro v2 w2 hown2 hg2 hat2; obtain ⟨A2, c2, rfl, hc2⟩ := own_form hown2; have b2 := b1a.turned (Turns.of_by (S := fun k => v.ownBlock = some k) hg2 (fun g hg _ => hg)) (fun e => (h.nv _ e).1 rfl); have c62 := b2.cell (k := 6) rfl; have f62 := b2.free 6)
  have t2 : Turns (fun k => v.ownBlock = some k) w1 w2 := (Turns.of_grows hga).trans (Turns.of_by hg2 (fun g hg _ => hg))
  have hv2 : ∀ g, (Value.slice A2 (D.waits.length + 1) c2).ownBlock = some g → v.ownBlock = some g ∨ w1.heap.size ≤ g := fun g hg => by
    rcases hat2 with e | e
    · exact .inl (e ▸ hg)
    · rw [e, HS.out] at hg
      injection hg with hg
      exact .inr (by omega)
  have hl1 : ∀ k, Foot a bs bl v k → k < w1.heap.size := fun k hk => Nat.lt_of_lt_of_le (h.lt k hk) t1.size
  have hnv2 : ∀ g, (Value.slice A2 (D.waits.length + 1) c2).ownBlock = some g → g ≠ a ∧ g ≠ bs ∧ g ≠ bl := fun g hg => by
    rcases hv2 g hg with e | e
    · exact h.nv g e
    · have q1 := hl1 a (.inl rfl); have q2 := hl1 bs (.inr (.inl rfl)); have q3 := hl1 bl (.inr (.inr (.inl rfl)))
      omega
  have t3 : Turns (fun k => k = a) w2 (w2.setCell ⟨a, 6, none⟩ (.slice A2 (D.waits.length + 1) c2)) := Turns.of_set w2 _ rfl
  have X : DiskX (w2.setCell ⟨a, 6, none⟩ (.slice A2 (D.waits.length + 1) c2)) a bs bl (.slice A2 (D.waits.length + 1) c2) x { D with seen := mkF D.seen c, waits := D.waits ++ [c] } := by
    refine ⟨b2.set_ (k := 6) (by simp) (.slice A2 (D.waits.length + 1) c2), h.pow, h.lo, h.hi, ?_, ?_, ?_, h.ne1, h.ne2, h.ne3, hnv2, ⟨(h.ok.do_ c).lasts, (h.ok.do_ c).seen⟩⟩
    · exact (h1.files.turned t2 (fun e => (h.nv _ e).2.1 rfl)).turned t3 (fun e => h.ne1 e.symm)
    · exact ((h.lasts.turned t1 (fun e => e.elim (fun e => h.ne2 e.symm) (fun e => h.ne3 e.symm))).turned t2 (fun e => (h.nv _ e).2.2 rfl)).turned t3 (fun e => h.ne2 e.symm)
    · have hr := own_turned hown2 t3 (fun g hg => (hnv2 g hg).1)
      have e1 : D.waits.map cv ++ [.iface zt zu] = (D.waits ++ [c]).map cv := by rw [List.map_append, ← HZ.out]; rfl
      rw [e1] at hr
      rw [List.length_append]
      exact hr
  have hSp := spend_any a bs bl (.slice A2 (D.waits.length + 1) c2) x _ _ X
  clear HZ b1 b1a c6 f6
  go_wp2_with fail
  refine hSp.mono ?_
  rintro e w4 ⟨rfl, X4, t4⟩
  go_wp2_with fail
  go_end0
  refine ⟨_, rfl, X4, ?_, fun g hg => (hv2 g hg).imp id fun e => Nat.le_trans t1.size e⟩
  have u1 : Turns (Foot a bs bl v) w w1 := t1.mono fun k _ e => e.elim .inl (fun e => .inr (.inl e))
  have u2 : Turns (Foot a bs bl v) w1 w2 := t2.mono fun k _ e => .inr (.inr (.inr e))
  exact ((u1.trans u2).trans (t3.mono fun k _ e => .inl e)).trans (t4.mono fun k _ e => .inl e)
end
end Go.Proofs.YtbcldknecdbemaaGreatDoor

/-
  disk: Write, Read, Rename, Remove.
-/
namespace Go.Proofs.YtbcldknecdbemaaGreatDoor
open Go.RowKit
set_option linter.unusedVariables false
set_option maxRecDepth 20000

def DiskAt (w : World) (a bs bl : Nat) (v : Value) (D : Dk) : Prop := ∃ x, DiskX w a bs bl v x D
/-- Where what waits lies: where it lay, or in memory that is new. -/
def Vloc (w : World) (v v' : Value) : Prop := ∀ g, v'.ownBlock = some g → v.ownBlock = some g ∨ w.heap.size ≤ g
theorem Vloc.refl (w : World) (v : Value) : Vloc w v v := fun g h => .inl h
theorem Vloc.later {w w1 : World} {v v' : Value} (h : Vloc w1 v v') (hs : w.heap.size ≤ w1.heap.size) : Vloc w v v' := fun g hg => (h g hg).imp id fun e => Nat.le_trans hs e
abbrev rv (x : Int) : Value := .int .i64 x

section
variable (a bs bl : Nat) (v : Value) (D : Dk) (w : World)
set_option maxHeartbeats 2000000 in
theorem write_dk (p : Byts) (A : Option Addr) (n c : Nat) (d : Byts) (h : DiskAt w a bs bl v D) (hd : d.length = n) (hl : Lies w w.heap.size A (d.map bv)) (hW : D.weight + n ≤ 100000000) (hn : D.waits.length ≤ 1000000) (hr : 0 ≤ D.room ∧ D.room ≤ 1048576) :
    Calls Tryz.prog 56 #[.pointer (some ⟨a, 0, none⟩), tv p, .slice A n c] w fun e w' => ∃ v', e = .returned (rv (writeD D p d).2) ∧ DiskAt w' a bs bl v' (writeD D p d).1 ∧ Turns (Foot a bs bl v) w w' ∧ Vloc w v v' := by
  obtain ⟨x, h⟩ := h
  have hM := mayname_any p
  have hU := fun u (h' : DiskX u a bs bl v x D) => up_any a bs bl v x D u h'
  have husd := h.ok.used
  have hud := used_del h.seen.nodup p
  unfold writeD
  cases e1 : namedB p with
  | false =>
    rw [if_pos rfl]
    rw [e1] at hM
    clear hud husd
    go_enter Tryz.func56, Tryz.ntmps56
    go_wp2_with fail
    refine (hM _).mono ?_
    rintro e w ⟨rfl, rfl⟩
    go_wp2_with fail
    go_ret
    exact ⟨v, rfl, ⟨x, h⟩, Turns.refl _ _, Vloc.refl _ _⟩
  | true =>
    rw [if_neg (by simp)]
    rw [e1] at hM
    have hp97 : p.length ≤ 100000000 := by
      unfold namedB at e1
      simp at e1
      omega
    by_cases e2 : D.power = 0
    · rw [if_pos e2]
      have hU2 := hU w h
      rw [show (!(decide (D.power = 0))) = false by simp [e2]] at hU2
      clear hud husd e2
      go_enter Tryz.func56, Tryz.ntmps56
      go_wp2_with fail
      refine (hM _).mono ?_
      rintro e w ⟨rfl, rfl⟩
      go_wp2_with fail
      refine hU2.mono ?_
      rintro e w ⟨rfl, rfl⟩
      go_wp2_with fail
      go_ret
      exact ⟨v, rfl, ⟨x, h⟩, Turns.refl _ _, Vloc.refl _ _⟩
    · rw [if_neg e2]
      have hU2 := hU w h
      rw [show (!(decide (D.power = 0))) = true by simp [e2]] at hU2
      have c0 : ∀ u, Grows w.drew u → u.cell? ⟨a, 0, none⟩ = some (.int .i64 D.room) := fun u hu => (h.has.later (Grows.trans (Grows.refl w).drew hu)).cell (k := 0) rfl
      have c2 : ∀ u, Grows w.drew u → u.cell? ⟨a, 2, none⟩ = some (.map (some bs)) := fun u hu => (h.has.later (Grows.trans (Grows.refl w).drew hu)).cell (k := 2) rfl
      have c3 : ∀ u, Grows w.drew u → u.cell? ⟨a, 3, none⟩ = some (.int .i64 (fUsed D.seen : Int)) := fun u hu => (h.has.later (Grows.trans (Grows.refl w).drew hu)).cell (k := 3) rfl
      have hg : ∀ u, Grows w.drew u → (Instr.lookup 103 (.map (some bs)) (tv p) false).run Tryz.prog u = .ok (tv ((fGet D.seen p).getD [])) u := fun u hu => by
        have := get_any bs D.seen p u (h.seen.later (Grows.trans (Grows.refl w).drew hu)) false
        simpa using this
      have hsz := size_mk ((fGet D.seen p).getD [])
      have hw1 : IntKind.i64.wrap ((fUsed D.seen : Int) - (((fGet D.seen p).getD []).length : Int)) = (fUsed D.seen : Int) - (((fGet D.seen p).getD []).length : Int) := IntWalk.i64_in _ (by omega)
      have hw2 : IntKind.i64.wrap ((fUsed D.seen : Int) - (((fGet D.seen p).getD []).length : Int) + (n : Int)) = (fUsed D.seen : Int) - (((fGet D.seen p).getD []).length : Int) + (n : Int) := IntWalk.i64_in _ (by omega)
      rw [hd]
      have HW := Lib.hid hW
      have HU := Lib.hid husd
      have hgd := (Grows.refl w).drew
      clear hud husd hW
      generalize (fGet D.seen p).getD [] = y at *
      by_cases e3 : D.room < (fUsed D.seen : Int) - (y.length : Int) + (n : Int)
      · rw [if_pos e3]
        have d3 : decide ((fUsed D.seen : Int) - (y.length : Int) + (n : Int) > D.room) = true := by simpa using e3
        clear e2 e3
        go_enter Tryz.func56, Tryz.ntmps56
        go_wp2_with fail
        refine (hM _).mono ?_
        rintro e w ⟨rfl, rfl⟩
        go_wp2_with fail
        refine hU2.mono ?_
        rintro e w ⟨rfl, rfl⟩
        go_wp2_with fail
        refine wp_region_ord 23 [(0, true), (1, true), (2, true), (3, true), (4, true), (5, true), (6, true), (7, true), (8, true), (9, true), (10, true), (11, true), (12, true), (13, true), (14, true), (15, true), (16, true), (17, true), (18, true), (19, true), (20, true), (21, true), (22, true)] (by kernel_rfl) (by kernel_rfl) ?_
        have hO := Grows.refl w.drew
        generalize hwd : w.drew = wd at *
        clear hwd
        repeat (first | (refine ord_take hO _ ?_ (by simp only [List.getElem?_cons_succ, List.getElem?_cons_zero]; rfl) (by rfl) ?_ ?_; rotate_left; (· (intro u hu0 hu; (try go_simp); (try with_reducible rfl))); try simp only [Act.put, List.setIfInBounds_toArray, List.set_cons_zero, List.set_cons_succ]) | (refine ord_skip _ (by simp only [List.getElem?_cons_succ, List.getElem?_cons_zero]; rfl) (by rfl) ?_; try simp only [Act.put, List.setIfInBounds_toArray, List.set_cons_zero, List.set_cons_succ]))
        refine ord_done (fun u hu1 => ?_); simp only [List.drop_succ_cons, List.drop_zero]
        go_wp2_with fail
        refine NoPanic.normal ?_
        go_wp2_with fail
        go_ret
        exact ⟨v, rfl, ⟨x, h.later (Grows.trans hgd hu1)⟩, Turns.of_grows (Grows.trans hgd hu1), Vloc.refl _ _⟩
      · rw [if_neg e3]
        have d3 : decide ((fUsed D.seen : Int) - (y.length : Int) + (n : Int) > D.room) = false := by simpa using e3
        clear e2 e3
        go_enter Tryz.func56, Tryz.ntmps56
        go_wp2_with fail
        refine (hM _).mono ?_
        rintro e w ⟨rfl, rfl⟩
        go_wp2_with fail
        refine hU2.mono ?_
        rintro e w ⟨rfl, rfl⟩
        go_wp2_with fail
        refine wp_region_ord 23 [(0, true), (1, true), (2, true), (3, true), (4, true), (5, true), (6, true), (7, true), (8, true), (9, true), (10, true), (11, true), (12, true), (13, true), (14, true), (15, true), (16, true), (17, true), (18, true), (19, true), (20, true), (21, true), (22, true)] (by kernel_rfl) (by kernel_rfl) ?_
        have hO := Grows.refl w.drew
        generalize hwd : w.drew = wd at *
        clear hwd
        repeat (first | (refine ord_take hO _ ?_ (by simp only [List.getElem?_cons_succ, List.getElem?_cons_zero]; rfl) (by rfl) ?_ ?_; rotate_left; (· (intro u hu0 hu; (try go_simp); (try with_reducible rfl))); try simp only [Act.put, List.setIfInBounds_toArray, List.set_cons_zero, List.set_cons_succ]) | (refine ord_skip _ (by simp only [List.getElem?_cons_succ, List.getElem?_cons_zero]; rfl) (by rfl) ?_; try simp only [Act.put, List.setIfInBounds_toArray, List.set_cons_zero, List.set_cons_succ]))
        refine ord_done (fun w5 hu1 => ?_); simp only [List.drop_succ_cons, List.drop_zero]
        have hgw : Grows w w5 := Grows.trans hgd hu1
        clear hO c0 c2 c3 hg hgd hu1
        go_wp2_with fail
        refine NoPanic.normal ?_
        go_wp2_with fail
        have hcs : ∀ u, Grows w5.drew u → (convert 27 9 (.slice A n c)).run Tryz.prog u = .ok (tv d) u := fun u hu =>
          run_string_of u 27 5 Tryz.underlying27 Tryz.underlying5 9 Tryz.underlying9 _ A n c d hd (hl.later (Grows.trans hgw (Grows.trans (Grows.refl w5).drew hu)))
        have hgd5 := Grows.trans hgw (Grows.refl w5).drew
        refine wp_region_ord 7 [(0, true), (1, true), (3, true), (4, true), (2, false), (5, true), (6, true)] (by kernel_rfl) (by kernel_rfl) ?_
        have hO := Grows.refl w5.drew
        generalize hwd : w5.drew = wd5 at *
        clear hwd
        repeat (first | (refine ord_take hO _ ?_ (by simp only [List.getElem?_cons_succ, List.getElem?_cons_zero]; rfl) (by rfl) ?_ ?_; rotate_left; (· (intro u hu0 hu; (try go_simp); (try with_reducible rfl))); try simp only [Act.put, List.setIfInBounds_toArray, List.set_cons_zero, List.set_cons_succ]) | (refine ord_skip _ (by simp only [List.getElem?_cons_succ, List.getElem?_cons_zero]; rfl) (by rfl) ?_; try simp only [Act.put, List.setIfInBounds_toArray, List.set_cons_zero, List.set_cons_succ]))
        (refine ord_move _ (by simp only [List.getElem?_cons_succ, List.getElem?_cons_zero]; rfl) (by rfl) (fun u hu K hK => ?_); go_simp)
        refine (tclone_any p u hp97).mono ?_
        rintro e w6 ⟨rfl, hg6⟩
        refine hK.out _ _ hg6 ?_
        clear hK K hO
        have hcs6 : ∀ u, Grows w6 u → (convert 27 9 (.slice A n c)).run Tryz.prog u = .ok (tv d) u := fun u' hu' => hcs u' (Grows.trans hu (Grows.trans hg6 hu'))
        clear hcs
        have hO := Grows.refl w6
        repeat (first | (refine ord_take hO _ ?_ (by simp only [List.getElem?_cons_succ, List.getElem?_cons_zero]; rfl) (by rfl) ?_ ?_; rotate_left; (· (intro u hu0 hu; (try go_simp); (try with_reducible rfl))); try simp only [Act.put, List.setIfInBounds_toArray, List.set_cons_zero, List.set_cons_succ]) | (refine ord_skip _ (by simp only [List.getElem?_cons_succ, List.getElem?_cons_zero]; rfl) (by rfl) ?_; try simp only [Act.put, List.setIfInBounds_toArray, List.set_cons_zero, List.set_cons_succ]))
        refine ord_done (fun w7 hu7 => ?_); simp only [List.drop_succ_cons, List.drop_zero]
        have hgw7 := Grows.trans hgd5 (Grows.trans hu (Grows.trans hg6 hu7))
        have hX := h.later hgw7
        have hDo := do_any a bs bl v x D w7 (.wr p d) hX (by show fUsed D.seen + d.length ≤ _; rw [hd]; have := HW.out; have := HU.out; omega) hn
        rw [show cv (.wr p d) = .iface 136 (.agg #[tv p, tv d]) from rfl] at hDo
        clear hcs6
        go_wp2_with fail
        refine hDo.mono ?_
        rintro e w8 ⟨v', rfl, X8, t8, l8⟩
        go_wp2_with fail
        refine NoPanic.normal ?_
        go_wp2_with fail
        go_ret
        exact ⟨v', rfl, ⟨_, X8⟩, (Turns.of_grows hgw7).trans t8, Vloc.later l8 hgw7.size⟩
end
end Go.Proofs.YtbcldknecdbemaaGreatDoor

/-
  disk: Read, Rename, Remove.
-/
namespace Go.Proofs.YtbcldknecdbemaaGreatDoor
open Go.RowKit
set_option linter.unusedVariables false
set_option maxRecDepth 20000

/-- Bytes in a row of their own, new since w0. -/
def Fresh (w0 w : World) (v : Value) (l : Byts) : Prop := (v = .slice none 0 0 ∧ l = []) ∨ ∃ g c, v = .slice (some ⟨g, 0, none⟩) l.length c ∧ l.length ≤ c ∧ c ≤ maxLen ∧ w0.heap.size ≤ g ∧
  (∀ j u, (l.map bv)[j]? = some u → w.cell? ⟨g, j, none⟩ = some u) ∧ ∀ j, j < l.length → w.frozen? ⟨g, j, none⟩ = false
section
variable (a bs bl : Nat) (v : Value) (D : Dk) (w : World)
set_option maxHeartbeats 2000000 in
theorem read_dk (p : Byts) (h : DiskAt w a bs bl v D) (hW : D.weight ≤ 100000000) :
    Calls Tryz.prog 45 #[.pointer (some ⟨a, 0, none⟩), tv p] w fun e w' => ∃ u, e = .returned (.tuple #[u, rv (readD D p).2]) ∧ Fresh w w' u (readD D p).1 ∧ Grows w w' := by
  obtain ⟨x, h⟩ := h
  have hU := up_any a bs bl v x D w h
  have hH := fhas_any a 2 bs D.seen _ p w h.fs
  have c2 := h.has.cell (k := 2) rfl
  have husd := h.ok.used
  have hud := used_del h.seen.nodup p
  unfold readD
  by_cases e2 : D.power = 0
  · rw [if_pos e2]
    rw [show (!(decide (D.power = 0))) = false by simp [e2]] at hU
    clear e2 husd hud
    go_enter Tryz.func45, Tryz.ntmps45
    go_wp2_with fail
    refine hU.mono ?_
    rintro e w ⟨rfl, rfl⟩
    go_wp2_with fail
    go_ret2
    exact ⟨_, rfl, .inl ⟨rfl, rfl⟩, Grows.refl _⟩
  · rw [if_neg e2]
    rw [show (!(decide (D.power = 0))) = true by simp [e2]] at hU
    cases hg : fGet D.seen p with
    | none =>
      rw [hg] at hH
      simp only [Option.isSome_none] at hH
      clear e2 husd hud hg
      go_enter Tryz.func45, Tryz.ntmps45
      go_wp2_with fail
      refine hU.mono ?_
      rintro e w ⟨rfl, rfl⟩
      go_wp2_with fail
      refine hH.mono ?_
      rintro e w ⟨rfl, rfl⟩
      go_wp2_with fail
      go_ret2
      exact ⟨_, rfl, .inl ⟨rfl, rfl⟩, Grows.refl _⟩
    | some d =>
      rw [hg] at hH hud
      simp only [Option.isSome_some] at hH
      simp only [Option.getD_some] at hud
      have hgt := get_any bs D.seen p w h.seen false
      rw [hg] at hgt
      simp at hgt
      obtain ⟨w1, c1, hrun, hc1, hc2, hB, hs1, hcl, hfr⟩ := run_bytes_of (P := Tryz.prog) 9 27 5 Tryz.underlying9 Tryz.underlying27 Tryz.underlying5 d (by simp [maxLen]; omega) w
      clear e2 husd hud hg
      go_enter Tryz.func45, Tryz.ntmps45
      go_wp2_with fail
      refine hU.mono ?_
      rintro e w ⟨rfl, rfl⟩
      go_wp2_with fail
      refine hH.mono ?_
      rintro e w ⟨rfl, rfl⟩
      go_wp2_with fail
      go_ret2
      exact ⟨_, rfl, .inr ⟨w.heap.size, c1, rfl, hc1, hc2, Nat.le_refl _, hcl, hfr⟩, hB⟩
set_option maxHeartbeats 2000000 in
theorem remove_dk (p : Byts) (h : DiskAt w a bs bl v D) (hW : D.weight ≤ 100000000) (hn : D.waits.length ≤ 1000000) (hp : p.length ≤ 100000000) :
    Calls Tryz.prog 36 #[.pointer (some ⟨a, 0, none⟩), tv p] w fun e w' => ∃ v', e = .returned (rv (removeD D p).2) ∧ DiskAt w' a bs bl v' (removeD D p).1 ∧ Turns (Foot a bs bl v) w w' ∧ Vloc w v v' := by
  obtain ⟨x, h⟩ := h
  have hU := up_any a bs bl v x D w h
  have hH := fhas_any a 2 bs D.seen _ p w h.fs
  have husd := h.ok.used
  have hDo := fun u (hu : Grows w u) => do_any a bs bl v x D u (.rm p) (h.later hu) (by simp [Chg.data]; omega) hn
  rw [show cv (.rm p) = .iface 125 (.agg #[tv p]) from rfl] at hDo
  unfold removeD
  by_cases e2 : D.power = 0
  · rw [if_pos e2]
    rw [show (!(decide (D.power = 0))) = false by simp [e2]] at hU
    clear e2 husd
    go_enter Tryz.func36, Tryz.ntmps36
    go_wp2_with fail
    refine hU.mono ?_
    rintro e w ⟨rfl, rfl⟩
    go_wp2_with fail
    go_ret
    exact ⟨v, rfl, ⟨x, h⟩, Turns.refl _ _, Vloc.refl _ _⟩
  · rw [if_neg e2]
    rw [show (!(decide (D.power = 0))) = true by simp [e2]] at hU
    cases hg : fGet D.seen p with
    | none =>
      rw [hg] at hH
      simp only [Option.isSome_none] at hH
      rw [if_pos rfl]
      clear e2 husd hg
      go_enter Tryz.func36, Tryz.ntmps36
      go_wp2_with fail
      refine hU.mono ?_
      rintro e w ⟨rfl, rfl⟩
      go_wp2_with fail
      refine hH.mono ?_
      rintro e w ⟨rfl, rfl⟩
      go_wp2_with fail
      go_ret
      exact ⟨v, rfl, ⟨x, h⟩, Turns.refl _ _, Vloc.refl _ _⟩
    | some d =>
      rw [hg] at hH
      simp only [Option.isSome_some] at hH
      rw [if_neg (by simp)]
      clear e2 husd hg
      go_enter Tryz.func36, Tryz.ntmps36
      go_wp2_with fail
      refine hU.mono ?_
      rintro e w ⟨rfl, rfl⟩
      go_wp2_with fail
      refine hH.mono ?_
      rintro e w ⟨rfl, rfl⟩
      go_wp2_with fail
      refine (tclone_any p _ hp).mono ?_
      rintro e w1 ⟨rfl, hg1⟩
      go_wp2_with fail
      refine (hDo _ hg1).mono ?_
      rintro e w2 ⟨v', rfl, X2, t2, l2⟩
      go_wp2_with fail
      go_ret
      exact ⟨v', rfl, ⟨_, X2⟩, (Turns.of_grows hg1).trans t2, Vloc.later l2 hg1.size⟩
set_option maxHeartbeats 2000000 in
theorem rename_dk (p q : Byts) (h : DiskAt w a bs bl v D) (hW : D.weight ≤ 100000000) (hn : D.waits.length ≤ 1000000) (hp : p.length ≤ 100000000) :
    Calls Tryz.prog 60 #[.pointer (some ⟨a, 0, none⟩), tv p, tv q] w fun e w' => ∃ v', e = .returned (rv (renameD D p q).2) ∧ DiskAt w' a bs bl v' (renameD D p q).1 ∧ Turns (Foot a bs bl v) w w' ∧ Vloc w v v' := by
  obtain ⟨x, h⟩ := h
  have hM := mayname_any q
  have hU := up_any a bs bl v x D w h
  have hH := fhas_any a 2 bs D.seen _ p w h.fs
  have husd := h.ok.used
  have hDo := fun u (hu : Grows w u) => do_any a bs bl v x D u (.rn p q) (h.later hu) (by simp [Chg.data]; omega) hn
  rw [show cv (.rn p q) = .iface 140 (.agg #[tv p, tv q]) from rfl] at hDo
  unfold renameD
  cases e1 : namedB q with
  | false =>
    rw [if_pos rfl]
    rw [e1] at hM
    clear husd
    go_enter Tryz.func60, Tryz.ntmps60
    go_wp2_with fail
    refine (hM _).mono ?_
    rintro e w ⟨rfl, rfl⟩
    go_wp2_with fail
    go_ret
    exact ⟨v, rfl, ⟨x, h⟩, Turns.refl _ _, Vloc.refl _ _⟩
  | true =>
    rw [if_neg (by simp)]
    rw [e1] at hM
    have hq97 : q.length ≤ 100000000 := by
      unfold namedB at e1
      simp at e1
      omega
    by_cases e2 : D.power = 0
    · rw [if_pos e2]
      rw [show (!(decide (D.power = 0))) = false by simp [e2]] at hU
      clear e2 husd
      go_enter Tryz.func60, Tryz.ntmps60
      go_wp2_with fail
      refine (hM _).mono ?_
      rintro e w ⟨rfl, rfl⟩
      go_wp2_with fail
      refine hU.mono ?_
      rintro e w ⟨rfl, rfl⟩
      go_wp2_with fail
      go_ret
      exact ⟨v, rfl, ⟨x, h⟩, Turns.refl _ _, Vloc.refl _ _⟩
    · rw [if_neg e2]
      rw [show (!(decide (D.power = 0))) = true by simp [e2]] at hU
      cases hg : fGet D.seen p with
      | none =>
        rw [hg] at hH
        simp only [Option.isSome_none] at hH
        rw [if_pos rfl]
        clear e2 husd hg
        go_enter Tryz.func60, Tryz.ntmps60
        go_wp2_with fail
        refine (hM _).mono ?_
        rintro e w ⟨rfl, rfl⟩
        go_wp2_with fail
        refine hU.mono ?_
        rintro e w ⟨rfl, rfl⟩
        go_wp2_with fail
        refine hH.mono ?_
        rintro e w ⟨rfl, rfl⟩
        go_wp2_with fail
        go_ret
        exact ⟨v, rfl, ⟨x, h⟩, Turns.refl _ _, Vloc.refl _ _⟩
      | some d =>
        rw [hg] at hH
        simp only [Option.isSome_some] at hH
        rw [if_neg (by simp)]
        clear e2 husd hg
        go_enter Tryz.func60, Tryz.ntmps60
        go_wp2_with fail
        refine (hM _).mono ?_
        rintro e w ⟨rfl, rfl⟩
        go_wp2_with fail
        refine hU.mono ?_
        rintro e w ⟨rfl, rfl⟩
        go_wp2_with fail
        refine hH.mono ?_
        rintro e w ⟨rfl, rfl⟩
        go_wp2_with fail
        refine (tclone_any p _ hp).mono ?_
        rintro e w1 ⟨rfl, hg1⟩
        go_wp2_with fail
        refine (tclone_any q _ hq97).mono ?_
        rintro e w2 ⟨rfl, hg2⟩
        go_wp2_with fail
        refine (hDo _ (Grows.trans hg1 hg2)).mono ?_
        rintro e w3 ⟨v', rfl, X2, t2, l2⟩
        go_wp2_with fail
        go_ret
        exact ⟨v', rfl, ⟨_, X2⟩, (Turns.of_grows (Grows.trans hg1 hg2)).trans t2, Vloc.later l2 (Grows.trans hg1 hg2).size⟩
end
end Go.Proofs.YtbcldknecdbemaaGreatDoor

/-
  cmp.Compare of texts, slices.Compare and slices.Equal of rows of texts, the reference's SameTexts. No condition but that the texts lie there.
-/
namespace Go.Proofs.YtbcldknecdbemaaGreatDoor
open Go.RowKit
set_option linter.unusedVariables false
set_option maxRecDepth 20000

theorem less_cmp (x y : List UInt8) : Op.bytesLess x y = decide (cmpB x y = -1) := by
  induction x generalizing y with
  | nil => cases y <;> simp [Op.bytesLess, cmpB]
  | cons a x ih =>
    cases y with
    | nil => simp [Op.bytesLess, cmpB]
    | cons b y =>
      rw [Op.bytesLess, cmpB, ih]
      by_cases h1 : a.toNat < b.toNat
      · have : a < b := UInt8.lt_iff_toNat_lt.2 h1
        simp [h1, this]
      · have n1 : ¬ a < b := fun e => h1 (UInt8.lt_iff_toNat_lt.1 e)
        by_cases h2 : b.toNat < a.toNat
        · have : a ≠ b := fun e => by subst e; omega
          simp [h1, h2, n1, this]
        · obtain rfl : a = b := UInt8.toNat_inj.1 (by omega)
          simp
theorem run_tlt (t : TypeId) (x y : List UInt8) : binOp .lss t (tv x) (tv y) = (pure (.bool (decide (cmpB x y = -1))) : Sem Value) := by rw [binOp_string_lss, toList_mk, toList_mk, less_cmp]
theorem run_tgt (t : TypeId) (x y : List UInt8) : binOp .gtr t (tv x) (tv y) = (pure (.bool (decide (cmpB x y = 1))) : Sem Value) := by
  rw [binOp_string_gtr, toList_mk, toList_mk, less_cmp]
  have h := cmpB_eq x y
  rcases cmpB_val x y with e | e | e
  · simp [e]
  · have := h.1 e
    subst this
    simp [e]
  · have : x ≠ y := fun q => by have := h.2 q; omega
    have b : (x == y) = false := by rw [beq_eq_false_iff_ne]; exact this
    rw [b]
    simp [e]

theorem texts_at {w : World} {A : Option Addr} {n c : Nat} {ls : List (List UInt8)} (h : Texts w A n c ls) {k : Nat} (hk : k < n) : ∃ ad x, A = some ad ∧ ls[k]? = some x ∧ w.cell? (ad.add k) = some (tv x) := by
  obtain ⟨x, hx⟩ : ∃ x, ls[k]? = some x := ⟨_, List.getElem?_eq_getElem (by rw [h.len]; exact hk)⟩
  obtain ⟨ad, e, _, hc⟩ := h.lies.at_ (j := k) (u := tv x) (by rw [List.getElem?_map, hx]; rfl)
  exact ⟨ad, x, e, hx, hc⟩
theorem drop_at {α : Type} {l : List α} {k : Nat} {x : α} (h : l[k]? = some x) : l.drop k = x :: l.drop (k + 1) := by
  obtain ⟨hk, e⟩ := List.getElem?_eq_some_iff.1 h
  rw [List.drop_eq_getElem_cons hk, e]
theorem take_at {α : Type} {l : List α} {k : Nat} {x : α} (h : l[k]? = some x) : l.take (k + 1) = l.take k ++ [x] := by
  rw [List.take_add_one, h]; rfl

theorem eq_step {α : Type} [BEq α] [LawfulBEq α] {xs ys : List α} {k : Nat} {x y : α} (hx : xs[k]? = some x) (hy : ys[k]? = some y) (h : xs.take k = ys.take k) (e : x = y) : xs.take (k + 1) = ys.take (k + 1) := by
  rw [take_at hx, take_at hy, h, e]

end Go.Proofs.YtbcldknecdbemaaGreatDoor

/-
  disk: Sync, New.
-/
namespace Go.Proofs.YtbcldknecdbemaaGreatDoor
open Go.RowKit
set_option linter.unusedVariables false
set_option maxRecDepth 20000

theorem dataSum_take (l : List Chg) (k : Nat) : dataSum (l.take k) ≤ dataSum l := by
  conv => rhs; rw [← List.take_append_drop k l]
  unfold dataSum
  rw [List.map_append, List.sum_append]
  exact Nat.le_add_right _ _
theorem dataSum_next {l : List Chg} {k : Nat} {c : Chg} (h : l[k]? = some c) : dataSum (l.take k) + c.data ≤ dataSum l := by
  have := dataSum_take l (k + 1)
  rw [take_at h, dataSum_snoc] at this
  exact this
theorem mks_next {l : List Chg} {k : Nat} {c : Chg} (h : l[k]? = some c) (S : Fls) : (l.take (k + 1)).foldl mkF S = mkF ((l.take k).foldl mkF S) c := by
  rw [take_at h, List.foldl_append]; rfl
theorem row_at {w : World} {base : Nat} {e : TypeId} {A : Option Addr} {n c : Nat} {l : List Chg} (h : w.ownsRow base e 1 (.slice A n c) n (l.map cv)) {k : Nat} (hk : k < n) : ∃ ad x, A = some ad ∧ l[k]? = some x ∧ w.cell? (ad.add k) = some (cv x) := by
  have hl : l.length = n := by have := h.1; simpa using this
  obtain ⟨x, hx⟩ : ∃ x, l[k]? = some x := ⟨_, List.getElem?_eq_getElem (by rw [hl]; exact hk)⟩
  obtain ⟨ad, e, _, hc⟩ := (Lies.of_own h) k (cv x) (by rw [List.getElem?_map, hx]; rfl)
  exact ⟨ad, x, e, hx, hc⟩
section
variable (a bs bl : Nat) (v : Value) (D : Dk) (w : World)
set_option maxHeartbeats 2000000 in
theorem sync_dk (h : DiskAt w a bs bl v D) (hW : D.weight ≤ 100000000) (hn : D.waits.length ≤ 1000000) :
    Calls Tryz.prog 58 #[.pointer (some ⟨a, 0, none⟩)] w fun e w' => ∃ v', e = .returned (rv (syncD D).2) ∧ DiskAt w' a bs bl v' (syncD D).1 ∧ Turns (Foot a bs bl v) w w' ∧ Vloc w v v' := by
  obtain ⟨x, h⟩ := h
  have hU := up_any a bs bl v x D w h
  unfold syncD
  by_cases e2 : D.power = 0
  · rw [if_pos e2]
    rw [show (!(decide (D.power = 0))) = false by simp [e2]] at hU
    clear e2
    go_enter Tryz.func58, Tryz.ntmps58
    go_wp2_with fail
    refine hU.mono ?_
    rintro e w ⟨rfl, rfl⟩
    go_wp2_with fail
    go_ret
    exact ⟨v, rfl, ⟨x, h⟩, Turns.refl _ _, Vloc.refl _ _⟩
  · rw [if_neg e2]
    rw [show (!(decide (D.power = 0))) = true by simp [e2]] at hU
    obtain ⟨A, c, rfl, hc⟩ := own_form h.row
    have c6 := h.has.cell (k := 6) rfl
    obtain ⟨n, hnn⟩ : ∃ n, n = D.waits.length := ⟨_, rfl⟩
    have hrow := h.row
    rw [← hnn] at hrow hn c6 h ⊢
    have HN := Lib.hid hnn
    clear e2 hnn
    go_enter Tryz.func58, Tryz.ntmps58
    go_wp2_with fail
    refine hU.mono ?_
    rintro e w ⟨rfl, rfl⟩
    go_wp2_with fail
    go_loopw [13] (fun i wr => ∃ k : Nat, k ≤ n ∧ i = .int .i64 (k : Int) ∧ FAt wr a 4 bl ((D.waits.take k).foldl mkF D.lasts) [.int .i64 D.room, .int .i64 x, .map (some bs), .int .i64 (fUsed D.seen : Int), .map (some bl), .int .i64 (fUsed ((D.waits.take k).foldl mkF D.lasts) : Int), .slice A n c] ∧ Turns (AB a bl) w wr) (fun i _ => n - (intOf i).toNat)
    case atStart => exact ⟨0, Nat.zero_le _, rfl, h.fl, Turns.refl _ _⟩
    case round =>
      obtain ⟨k, hk, rfl, F, T⟩ := hrel
      have hrowr := own_turned hrow T (fun g hg e => by have := h.nv g hg; rcases e with e | e <;> omega)
      by_cases hlt : k < n
      · obtain ⟨ad, y, rfl, hy, hcy⟩ := row_at hrowr hlt
        have hT := dtake_any a 4 bl _ _ wr y F (by
          have h1 := used_mks (D.waits.take k) h.ok.lasts
          have h2 := dataSum_next hy
          unfold Dk.weight at hW
          omega)
        rw [← mks_next hy] at hT
        obtain ⟨zt, zu, hz⟩ : ∃ t u, cv y = .iface t u := by cases y <;> exact ⟨_, _, rfl⟩
        rw [hz] at hT hcy
        clear hz hy
        go_wp2_with fail
        refine hT.mono ?_
        rintro e w2 ⟨rfl, F2, t2⟩
        go_wp2_with fail
        go_roundw
        case rel => exact ⟨k + 1, by omega, by go_num, F2, T.trans t2⟩
        case measure => simp [intOf]; omega
      · obtain rfl : k = n := by omega
        have hall : (D.waits.take k).foldl mkF D.lasts = D.seen := by rw [HN.out, List.take_length]; exact h.ok.seen.symm
        rw [hall] at F
        have f6 := F.has.free 6
        have c6' := F.has.cell (k := 6) rfl
        have t3 : Turns (fun q => q = a) wr (wr.setCell ⟨a, 6, none⟩ (.slice none 0 0)) := Turns.of_set wr _ rfl
        have X : DiskX (wr.setCell ⟨a, 6, none⟩ (.slice none 0 0)) a bs bl (.slice none 0 0) x { D with lasts := D.seen, waits := [] } := by
          refine ⟨F.has.set_ (k := 6) (by simp) _, h.pow, h.lo, h.hi, ?_, ?_, World.ownsRow_nil _ _ _ _, h.ne1, h.ne2, h.ne3, fun g hg => by simp [Value.ownBlock] at hg, ⟨h.ok.srt, rfl⟩⟩
          · exact (h.seen.turned T (fun e => e.elim (fun e => h.ne1 e.symm) (fun e => h.ne3 e))).turned t3 (fun e => h.ne1 e.symm)
          · exact F.files.turned t3 (fun e => h.ne2 e.symm)
        have hSp := spend_any a bs bl _ x _ _ X
        clear hall
        go_wp2_with fail
        refine hSp.mono ?_
        rintro e w4 ⟨rfl, X4, t4⟩
        go_wp2_with fail
        go_ret
        refine ⟨.slice none 0 0, rfl, ⟨_, X4⟩, ?_, fun g hg => by simp [Value.ownBlock] at hg⟩
        exact ((T.mono fun q _ e => e.elim .inl (fun e => .inr (.inr (.inl e)))).trans (t3.mono fun q _ e => .inl e)).trans (t4.mono fun q _ e => .inl e)
end
set_option maxHeartbeats 2000000 in
theorem new_dk (room : Int) (w : World) : Calls Tryz.prog 33 #[rv room] w fun e w' => Grows w w' ∧ ((¬ (1 ≤ room ∧ room ≤ 1048576) ∧ e = .returned (.tuple #[.pointer none, rv 1])) ∨
    ((1 ≤ room ∧ room ≤ 1048576) ∧ ∃ a bs bl, e = .returned (.tuple #[.pointer (some ⟨a, 0, none⟩), rv 0]) ∧ DiskAt w' a bs bl (.slice none 0 0) (newD room) ∧ ∀ k, Foot a bs bl (.slice none 0 0) k → w.heap.size ≤ k)) := by
  by_cases h1 : room < 1
  · have d1 : decide (room < 1) = true := by simpa using h1
    have hno : ¬ (1 ≤ room ∧ room ≤ 1048576) := by omega
    have HNo := Lib.hid hno
    clear h1 hno
    go_enter Tryz.func33, Tryz.ntmps33
    go_wp2_with fail
    go_ret2
    exact ⟨Grows.refl _, .inl ⟨HNo.out, rfl⟩⟩
  · have d1 : decide (room < 1) = false := by simpa using h1
    by_cases h2 : room > 1048576
    · have d2 : decide (room > 1048576) = true := by simpa using h2
      have hno : ¬ (1 ≤ room ∧ room ≤ 1048576) := by omega
      have HNo := Lib.hid hno
      clear h1 h2 hno
      go_enter Tryz.func33, Tryz.ntmps33
      go_wp2_with fail
      go_ret2
      exact ⟨Grows.refl _, .inl ⟨HNo.out, rfl⟩⟩
    · have d2 : decide (room > 1048576) = false := by simpa using h2
      have hyes : 1 ≤ room ∧ room ≤ 1048576 := by omega
      have HY := Lib.hid hyes
      clear h1 h2 hyes
      go_enter Tryz.func33, Tryz.ntmps33
      go_wp2_with fail
      refine (nofiles_any _).mono ?_
      rintro e w1 ⟨bs, rfl, hb1, hf1, hg1⟩
      go_wp2_with fail
      refine (nofiles_any _).mono ?_
      rintro e w2 ⟨bl, rfl, hb2, hf2, hg2⟩
      go_wp2_with fail
      have hbox := Has.new w2 108 [rv room, rv (-1), .map (some bs), rv 0, .map (some bl), rv 0, .slice none 0 0]
      have hg3 := grows_alloc w2 (.cells [rv room, rv (-1), .map (some bs), rv 0, .map (some bl), rv 0, .slice none 0 0].toArray 108)
      have hl1 := hf1.lt
      have hl2 := hf2.lt
      have hs1 := hg1.size
      have hs2 := hg2.size
      go_ret2
      refine ⟨Grows.trans hg1 (Grows.trans hg2 hg3), .inr ⟨HY.out, w2.heap.size, bs, bl, rfl, ⟨-1, ?_⟩, ?_⟩⟩
      · exact ⟨hbox, rfl, by omega, by omega, (hf1.later hg2).later hg3, hf2.later hg3, World.ownsRow_nil _ _ _ _, by omega, by omega, by omega, fun g hg => by simp [Value.ownBlock] at hg, Dk.Ok.new room⟩
      · rintro k (rfl | rfl | rfl | hk)
        · omega
        · exact hb1
        · omega
        · simp [Value.ownBlock] at hk
end Go.Proofs.YtbcldknecdbemaaGreatDoor

/-
  disk: Restart.
-/
namespace Go.Proofs.YtbcldknecdbemaaGreatDoor
open Go.RowKit
set_option linter.unusedVariables false
set_option maxRecDepth 20000

/-- rstF, one change on: what is left of the bits, what is there. -/
def stepB (c : Chg) (ks : List Bool) : List Bool := if ks.headD false = true then (match c with | .wr _ _ => ks.tail.tail | _ => ks.tail) else ks.tail
def stepF (c : Chg) (ks : List Bool) (S : Fls) : Fls := if ks.headD false = true then (match c with | .wr p b => fPut S p (if ks.tail.headD false = true then b else halfB b) | c => mkF S c) else S
theorem rst_step (c : Chg) (r : List Chg) (ks : List Bool) (S : Fls) : rstF (c :: r) ks S = rstF r (stepB c ks) (stepF c ks S) := by
  conv => lhs; unfold rstF
  unfold stepB stepF
  split
  · cases c <;> rfl
  · rfl
def bitsAt : List Chg → List Bool → List Bool
  | [], ks => ks
  | c :: r, ks => bitsAt r (stepB c ks)
theorem rst_snoc (c : Chg) : ∀ (l : List Chg) (ks : List Bool) (S : Fls), rstF (l ++ [c]) ks S = stepF c (bitsAt l ks) (rstF l ks S)
  | [], ks, S => by rw [List.nil_append, rst_step]; rfl
  | x :: r, ks, S => by rw [List.cons_append, rst_step, rst_snoc c r, rst_step x r]; rfl
theorem bits_snoc (c : Chg) : ∀ (l : List Chg) (ks : List Bool), bitsAt (l ++ [c]) ks = stepB c (bitsAt l ks)
  | [], ks => rfl
  | x :: r, ks => bits_snoc c r _
/-- A store of two cells into a block of more. -/
theorem wpList_store2 {P : Program} {w : World} {ops : Array Oper} {rest : List Oper} {op : Oper} {ac : Act} {Q : Exit → Act → World → Prop} (hgd : op.guard = none) (ty : TypeId) (x y : Operand) (ho : op.op = .store ty x y)
    (b o : Nat) (vs : List Value) (p q : Value) (hx : ac.eval x = .pointer (some ⟨b, o, none⟩)) (hy : ac.eval y = .agg #[p, q]) (hb : Has w b vs) (hl : o + 1 < vs.length) (hi : (P.info? ty).map (·.size) = some 2)
    (h1 : p.oneCell' = true) (h2 : q.oneCell' = true) (h : ∀ w', Has w' b ((vs.set o p).set (o + 1) q) → Turns (fun k => k = b) w w' → wpList P ops Q rest (ac.put op.dst undef) w') : wpList P ops Q (op :: rest) ac w := by
  have hth : w.there b o 2 := by
    have := there_of (hb.part o (cs := [vs[o]'(by omega), vs[o + 1]'hl]) (by
      intro j u hu
      match j, hu with
      | 0, hu => simp at hu; rw [← hu]; simp
      | 1, hu => simp at hu; rw [← hu]; simp)) hb.free
    exact this
  refine wpList_store_mid hgd ty x y ho b o #[p, q] hx hy hth hi (by simp [h1, h2]) ?_
  exact h _ ((hb.set_ (k := o) (by omega) p).set_ (k := o + 1) (by simpa using hl) q) (turns_cells b _ o w)
def HAB (a b k : Nat) (i : Nat) : Prop := i = a ∨ i = b ∨ i = k

section
variable (a o b k : Nat) (S : Fls) (vs : List Value) (w : World) (ok : Nat → Prop) (ks : List Bool)
/-- A change that is made: by what the bits tell. -/
theorem take_next (c : Chg) (h : FAt w a o b S vs) (hu : fUsed S + c.data ≤ 100000000) (hK : Bits w k ok ks.tail) (h1 : ks.headD false = true) (hk : ¬ ok k) (ka : k ≠ a) (kb : k ≠ b) (hab : ∀ i, ok i → i ≠ a ∧ i ≠ b) (hok : ∀ i, ok i → i < w.heap.size) :
    Calls Tryz.prog 65 #[.pointer (some ⟨a, o, none⟩), cv c, nextV k] w fun e w' => e = .returned (.tuple #[]) ∧
    FAt w' a o b (stepF c ks S) (vs.set (o + 1) (.int .i64 (fUsed (stepF c ks S) : Int))) ∧ Bits w' k ok (stepB c ks) ∧ Turns (ABK a b k) w w' := by
  cases c with
  | wr p d =>
    have := take_wn a o b k S vs w ok ks.tail p d h hu hK hk ka kb hab hok
    unfold stepF stepB
    rw [if_pos h1, if_pos h1]
    exact this
  | rn p q =>
    unfold stepF stepB
    rw [if_pos h1, if_pos h1]
    refine (take_rn a o b S vs w _ p q h (by simp [Chg.data] at hu; omega)).mono ?_
    rintro e w' ⟨rfl, h1, t1⟩
    exact ⟨rfl, h1, hK.turned t1 (fun e => e.elim ka kb) (fun i hi e => e.elim (hab i hi).1 (hab i hi).2), t1.mono fun i _ e => e.elim .inl (fun e => .inr (.inl e))⟩
  | rm p =>
    unfold stepF stepB
    rw [if_pos h1, if_pos h1]
    refine (take_rm a o b S vs w _ p h (by simp [Chg.data] at hu; omega)).mono ?_
    rintro e w' ⟨rfl, h1, t1⟩
    exact ⟨rfl, h1, hK.turned t1 (fun e => e.elim ka kb) (fun i hi e => e.elim (hab i hi).1 (hab i hi).2), t1.mono fun i _ e => e.elim .inl (fun e => .inr (.inl e))⟩
end

section
variable (a bs bl : Nat) (v : Value) (D : Dk) (w : World)
set_option maxHeartbeats 4000000 in
theorem restart_dk (Ak : Option Addr) (nk ck : Nat) (ks : List Bool) (h : DiskAt w a bs bl v D) (hks : ks.length = nk) (hkc : nk ≤ ck) (hkl : LiesIn (fun i => i < w.heap.size ∧ ¬ Foot a bs bl v i) w Ak (ks.map .bool)) (hW : D.weight ≤ 100000000) (hn : D.waits.length ≤ 1000000) :
    Calls Tryz.prog 19 #[.pointer (some ⟨a, 0, none⟩), .slice Ak nk ck] w fun e w' => ∃ bs' , e = .returned (.tuple #[]) ∧ DiskAt w' a bs' bl (.slice none 0 0) (restartD D ks) ∧ Turns (Foot a bs bl v) w w' ∧ w.heap.size ≤ bs' := by
  obtain ⟨x, h⟩ := h
  obtain ⟨A, c, rfl, hc⟩ := own_form h.row
  have hlt := h.lt
  have hbox := Has.new w 28 [.slice Ak nk ck]
  have hga := grows_alloc w (.cells [Value.slice Ak nk ck].toArray 28)
  obtain ⟨n, hnn⟩ : ∃ n, n = D.waits.length := ⟨_, rfl⟩
  have hrow := h.row
  rw [← hnn] at hrow hn h hlt hkl ⊢
  have HN := Lib.hid hnn
  clear hnn
  have c6 := (h.has.later hga).cell (k := 6) rfl
  have hbits : Bits (w.alloc (.cells [Value.slice Ak nk ck].toArray 28)) w.heap.size (fun i => i < w.heap.size ∧ ¬ Foot a bs bl (.slice A n c) i) ks := ⟨Ak, nk, ck, hbox, hks, hkc, hkl.later hga⟩
  have h1 := h.later hga
  have hrow1 := own_later hrow hga
  go_enter Tryz.func19, Tryz.ntmps19
  go_wp2_with fail
  change Code.wp _ _ _ _ (w.alloc (.cells [Value.slice Ak nk ck].toArray 28))
  have hB1 : w.heap.size < (w.alloc (.cells [Value.slice Ak nk ck].toArray 28)).heap.size := hbox.lt
  generalize w.alloc (.cells [Value.slice Ak nk ck].toArray 28) = w1 at *
  generalize hBe : w.heap.size = B at *
  have hBw := Lib.hid (Nat.le_of_eq hBe)
  have hBx := Lib.hid (Nat.le_of_eq hBe.symm)
  clear hBe
  have ba : B ≠ a := by have := hlt a (.inl rfl); omega
  have bb : B ≠ bl := by have := hlt bl (.inr (.inr (.inl rfl))); omega
  have hab : ∀ i, (i < B ∧ ¬ Foot a bs bl (.slice A n c) i) → i ≠ a ∧ i ≠ bl := fun i hi => ⟨fun e => hi.2 (.inl e), fun e => hi.2 (.inr (.inr (.inl e)))⟩
  go_loopw [13] (fun i wr => ∃ k : Nat, k ≤ n ∧ i = .int .i64 (k : Int) ∧ FAt wr a 4 bl (rstF (D.waits.take k) ks D.lasts) [.int .i64 D.room, .int .i64 x, .map (some bs), .int .i64 (fUsed D.seen : Int), .map (some bl), .int .i64 (fUsed (rstF (D.waits.take k) ks D.lasts) : Int), .slice A n c] ∧
    Bits wr B (fun i => i < B ∧ ¬ Foot a bs bl (.slice A n c) i) (bitsAt (D.waits.take k) ks) ∧ Turns (ABK a bl B) w1 wr) (fun i _ => n - (intOf i).toNat)
  case atStart => exact ⟨0, Nat.zero_le _, rfl, h1.fl, hbits, Turns.refl _ _⟩
  case round =>
    obtain ⟨k, hk, rfl, F, hbk, T⟩ := hrel
    have hrowr := own_turned hrow1 T (fun g hg e => by have := h.nv g hg; have := hlt g (.inr (.inr (.inr hg))); rcases e with e | e | e <;> omega)
    by_cases hlt' : k < n
    · obtain ⟨ad, y, rfl, hy, hcy⟩ := row_at hrowr hlt'
      have hN := next1_any B _ _ wr hbk (fun e => by omega)
      have hbd : fUsed (rstF (D.waits.take k) ks D.lasts) + y.data ≤ 100000000 := by
        have h1 := used_rst (D.waits.take k) ks h.ok.lasts
        have h2 := dataSum_next hy
        unfold Dk.weight at hW
        omega
      have hrs : rstF (D.waits.take (k + 1)) ks D.lasts = stepF y (bitsAt (D.waits.take k) ks) (rstF (D.waits.take k) ks D.lasts) := by rw [take_at hy, rst_snoc]
      have hbs : bitsAt (D.waits.take (k + 1)) ks = stepB y (bitsAt (D.waits.take k) ks) := by rw [take_at hy, bits_snoc]
      have HRS := Lib.hid hrs
      have HBS := Lib.hid hbs
      have hlw := T.size
      obtain ⟨zt, zu, hz⟩ : ∃ t u, cv y = .iface t u := by cases y <;> exact ⟨_, _, rfl⟩
      have HZ := Lib.hid hz
      rw [hz] at hcy
      clear hrs hbs hy hz
      generalize rstF (D.waits.take k) ks D.lasts = S0 at *
      generalize bitsAt (D.waits.take k) ks = kb at *
      cases hx : kb.headD false with
      | false =>
        rw [hx] at hN
        have e1 : stepF y kb S0 = S0 := by unfold stepF; rw [if_neg (by rw [hx]; exact Bool.false_ne_true)]
        have e2 : stepB y kb = kb.tail := by unfold stepB; rw [if_neg (by rw [hx]; exact Bool.false_ne_true)]
        rw [e1] at HRS
        rw [e2] at HBS
        clear e1 e2 hx
        go_wp2_with fail
        refine hN.mono ?_
        rintro e w2 ⟨rfl, b2, t2⟩
        go_wp2_with fail
        go_roundw
        case rel =>
          refine ⟨k + 1, by omega, by go_num, ?_, ?_, T.trans (t2.mono fun i _ e => .inr (.inr e))⟩
          · rw [HRS.out]; exact F.turned t2 (fun e => ba e.symm) (fun e => bb e.symm)
          · rw [HBS.out]; exact b2
        case measure => simp [intOf]; omega
      | true =>
        rw [hx] at hN
        have HX := Lib.hid hx
        clear hx
        go_wp2_with fail
        refine hN.mono ?_
        rintro e w2 ⟨rfl, b2, t2⟩
        have F2 := F.turned t2 (fun e => ba e.symm) (fun e => bb e.symm)
        have hTN := take_next a 4 bl B S0 _ w2 (fun i => i < B ∧ ¬ Foot a bs bl (.slice (some ad) n c) i) kb y F2 hbd b2 HX.out (fun e => by omega) ba bb hab (fun i hi => by have := t2.size; omega)
        rw [HZ.out] at hTN
        go_wp2_with fail
        refine hTN.mono ?_
        rintro e w3 ⟨rfl, F3, b3, t3⟩
        go_wp2_with fail
        go_roundw
        case rel =>
          refine ⟨k + 1, by omega, by go_num, ?_, ?_, (T.trans (t2.mono fun i _ e => .inr (.inr e))).trans t3⟩
          · rw [HRS.out]; exact F3
          · rw [HBS.out]; exact b3
        case measure => simp [intOf]; omega
    · obtain rfl : k = n := by omega
      have hall : (D.waits.take k) = D.waits := by rw [HN.out, List.take_length]
      rw [hall] at F
      have hC := fcopied_any a 4 bl _ _ wr F
      clear hall hbk
      generalize hS0 : rstF D.waits ks D.lasts = S0 at *
      have HS0 := Lib.hid hS0
      clear hS0
      go_wp2_with fail
      refine hC.mono ?_
      rintro e w2 ⟨b', rfl, hb', hf2, hg2⟩
      have F2 := F.later hg2
      have hub : b' ≠ a := by have h1 := F.has.lt; omega
      go_wp2_with (refine wpList_store2 rfl 105 (.tmp 32) (.tmp 30) rfl a 2 _ _ _ rfl rfl F2.has (by simp) (by kernel_rfl) rfl rfl ?_; intro w3 b3 t3; have b3' : Has w3 a [.int .i64 D.room, .int .i64 x, .map (some b'), .int .i64 (fUsed S0 : Int), .map (some bl), .int .i64 (fUsed S0 : Int), .slice A k c] := b3; have c36 := b3'.cell (k := 6) rfl; have f36 := b3'.free 6; have b4 := b3'.set_ (k := 6) (by simp) (.slice none 0 0); have c41 := b4.cell (k := 1) rfl; have f41 := b4.free 1; clear b3)
      go_end0
      have t4 : Turns (fun q => q = a) w3 ((w3.setCell ⟨a, 6, none⟩ (.slice none 0 0)).setCell ⟨a, 1, none⟩ (.int .i64 (-1))) := (Turns.of_set (S := fun q => q = a) (b := a) (o := 6) w3 (.slice none 0 0) rfl).trans (Turns.of_set (S := fun q => q = a) (b := a) (o := 1) _ (.int .i64 (-1)) rfl)
      have t24 := t3.trans t4
      have hbl : bl < wr.heap.size := F.files.lt
      have hbb' : b' ≠ bl := by omega
      refine ⟨b', rfl, ⟨-1, ?_, rfl, by omega, by omega, ?_, ?_, World.ownsRow_nil _ _ _ _, fun e => hub e.symm, h.ne2, hbb', fun g hg => by simp [Value.ownBlock] at hg, h.ok.restart ks⟩, ?_, ?_⟩
      · show Has _ a [.int .i64 D.room, .int .i64 (-1), .map (some b'), .int .i64 (fUsed (rstF D.waits ks D.lasts) : Int), .map (some bl), .int .i64 (fUsed (rstF D.waits ks D.lasts) : Int), .slice none 0 0]
        rw [HS0.out]; exact b4.set_ (k := 1) (by simp) (.int .i64 (-1))
      · show Files _ b' (rstF D.waits ks D.lasts)
        rw [HS0.out]; exact hf2.turned t24 hub
      · show Files _ bl (rstF D.waits ks D.lasts)
        rw [HS0.out]; exact F2.files.turned t24 (fun e => h.ne2 e.symm)
      · have u1 : Turns (Foot a bs bl (.slice A k c)) w wr := (Turns.of_grows hga).then_ T (fun i hi e => by
          rcases e with e | e | e
          · exact .inl e
          · exact .inr (.inr (.inl e))
          · have := hBw.out; omega)
        exact (u1.trans (Turns.of_grows hg2)).trans (t24.mono fun i _ e => .inl e)
      · have := hBw.out; have := T.size; have := hga.size; omega
end
end Go.Proofs.YtbcldknecdbemaaGreatDoor
