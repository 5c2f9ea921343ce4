/-
  Contracts, joined (RkG RkF RkH OpS RkI).
-/
import Derived.Test.YtbcldknecdbemaaGreatDoorQ15
import Derived.Test.YtbcldknecdbemaaGreatDoorQ11
import Derived.Deep.Slices
import Derived.Deep.Fields
import Derived.ChangeSlices
import Derived.Deep.Grids
import Derived.Test.YtbcldknecdbemaaGreatDoorQ1

/-
  like: has a disk the reference's files?
-/
namespace Go.Proofs.YtbcldknecdbemaaGreatDoor
open Go.RowKit
set_option linter.unusedVariables false
set_option maxRecDepth 20000

theorem preF_nil (S : Fls) : preF S [] = S.map (·.1) := by
  have : S.filter (fun x => prefB x.1 []) = S := List.filter_eq_self.2 (fun x _ => by simp [prefB])
  unfold preF
  rw [this]

end Go.Proofs.YtbcldknecdbemaaGreatDoor

/-
  The reference's Remove, Rename, Sync, Power.
-/
namespace Go.Proofs.YtbcldknecdbemaaGreatDoor
open Go.RowKit
set_option linter.unusedVariables false
set_option maxRecDepth 20000

theorem remove_eq (D : Dk) (p : Byts) : removeD D p = if (readD D p).2 = 0 then (D.do_ (.rm p), 0) else (D, (readD D p).2) := by
  unfold removeD readD
  by_cases h : D.power = 0
  · rw [if_pos h, if_pos h, if_neg (by simp)]
  · rw [if_neg h, if_neg h]
    cases hg : fGet D.seen p with
    | none => rw [if_pos rfl]; rfl
    | some b => rw [if_neg (by simp)]; rfl
theorem rename_eq (D : Dk) (p q : Byts) : renameD D p q = if namedB q = false then (D, 1) else if (readD D p).2 = 0 then (D.do_ (.rn p q), 0) else (D, (readD D p).2) := by
  unfold renameD readD
  by_cases hq : namedB q = false
  · rw [if_pos hq, if_pos hq]
  · rw [if_neg hq, if_neg hq]
    by_cases h : D.power = 0
    · rw [if_pos h, if_pos h, if_neg (by simp)]
    · rw [if_neg h, if_neg h]
      cases hg : fGet D.seen p with
      | none => rw [if_pos rfl]; rfl
      | some b => rw [if_neg (by simp)]; rfl
set_option maxHeartbeats 4000000 in
theorem remove_r (D : Dk) (sv lv wv : Value) (w : World) (ok : Nat → Prop) (p : Byts) (h : RDk w ok sv lv wv D) (hn : D.seen.length ≤ 1000000) (hw : D.waits.length ≤ 1000000) (hp : -1 ≤ D.power ∧ D.power ≤ 9223372036854775807) :
    Calls Tryz.prog 35 #[dV D sv lv wv, tv p] w fun e w' => ∃ sv' wv', e = .returned (.tuple #[dV (removeD D p).1 sv' lv wv', rv (removeD D p).2]) ∧ RDk w' (Nw w ok) sv' lv wv' (removeD D p).1 ∧ Grows w w' := by
  have hDL := dL_one h
  obtain ⟨b1, b2, g1, s1⟩ := two_b w (dL D sv lv wv) zeroD 39 39 _ rfl
  clear s1
  have RD := fun u (hu' : Grows w u) => read_r D sv lv wv u ok p (h.later hu') hn
  have DO := fun u (hu' : Grows w u) => do_r D sv lv wv u (fun k => ok k ∧ k < w.heap.size) (.rm p) (h.cut.later hu') hn hw hp
  obtain ⟨R, hR⟩ : ∃ R, R = removeD D p := ⟨_, rfl⟩
  rw [← hR]
  rw [remove_eq] at hR
  generalize readD D p = rd at *
  obtain ⟨y, r⟩ := rd
  simp only at RD hR
  unfold dL at *
  by_cases e3 : r = 0
  · subst e3
    rw [if_pos rfl] at hR
    have HR := Lib.hid hR
    clear hR hn hw hp
    go_enter Tryz.func35, Tryz.ntmps35
    go_wp2_with fail
    change Calls _ _ _ (((w.alloc (.cells [rv D.room, sv, lv, wv, rv D.power].toArray 39)).alloc (.cells [rv 0, .slice none 0 0, .slice none 0 0, .slice none 0 0, rv 0].toArray 39))) _
    generalize (w.alloc (.cells [rv D.room, sv, lv, wv, rv D.power].toArray 39)).alloc (.cells [rv 0, .slice none 0 0, .slice none 0 0, .slice none 0 0, rv 0].toArray 39) = w2 at *
    generalize hE : w.heap.size + 1 = E at *
    generalize hB : w.heap.size = B at *
    have HB := Lib.hid hB
    have HE := Lib.hid hE
    clear hB hE
    have c0 := b1.cell (k := 0) rfl
    have c1 := b1.cell (k := 1) rfl
    have c2 := b1.cell (k := 2) rfl
    have c3 := b1.cell (k := 3) rfl
    have c4 := b1.cell (k := 4) rfl
    refine (RD w2 g1).mono ?_
    rintro e w3 ⟨rfl, g3⟩
    have b13 := b1.later g3
    have b23 := b2.later g3
    have G3 := Grows.trans g1 g3
    have k0 := b13.cell (k := 0) rfl
    have k1 := b13.cell (k := 1) rfl
    have k2 := b13.cell (k := 2) rfl
    have k3 := b13.cell (k := 3) rfl
    have k4 := b13.cell (k := 4) rfl
    go_wp2_with fail
    refine (DO w3 G3).mono ?_
    rintro e w5 ⟨sv', wv', rfl, h5, g5⟩
    have b25 := b23.later g5
    have hb2 := b23.lt
    have hl5 := g3.size
    have hDL5 := dL_one h5
    unfold dL at hDL5
    go_wp2_with (refine wpList_storeT rfl 39 (.tmp 4) (.tmp 21) rfl E _ [rv (D.do_ (.rm p)).room, sv', lv, wv', rv (D.do_ (.rm p)).power] 5 rfl rfl b25 rfl rfl d_size hDL5 ?_; intro w9 b9 t9)
    (try simp only [Exit.inBlock, Exit.then])
    refine bodyPost_ret (res_has_two (vs := [rv (D.do_ (.rm p)).room, sv', lv, wv', rv (D.do_ (.rm p)).power]) Tryz.results35 _ rfl Tryz.underlying39 rfl d_size b9) rfl ?_
    have hbb := HB.out
    have hee := HE.out
    have hlt := g1.size
    refine ⟨sv', wv', by rw [HR.out]; rfl, ?_, ?_⟩
    · rw [HR.out]
      exact (h5.turned t9 (fun k hk e => by rcases hk with hk | hk <;> omega)).mono fun k hk => by rcases hk with hk | hk; exact .inl hk.1; exact .inr (by omega)
    · exact ((Turns.of_grows (S := fun k => B ≤ k) (Grows.trans G3 g5)).trans (t9.mono fun k _ e => by omega)).grows (fun k hk => by omega)
  · rw [if_neg e3] at hR
    have HR := Lib.hid hR
    have d3 : (r != 0) = true := by simpa using e3
    have d3' : (r == 0) = false := by simpa using e3
    clear hR hn hw hp e3 DO
    go_enter Tryz.func35, Tryz.ntmps35
    go_wp2_with fail
    change Calls _ _ _ (((w.alloc (.cells [rv D.room, sv, lv, wv, rv D.power].toArray 39)).alloc (.cells [rv 0, .slice none 0 0, .slice none 0 0, .slice none 0 0, rv 0].toArray 39))) _
    generalize (w.alloc (.cells [rv D.room, sv, lv, wv, rv D.power].toArray 39)).alloc (.cells [rv 0, .slice none 0 0, .slice none 0 0, .slice none 0 0, rv 0].toArray 39) = w2 at *
    generalize hE : w.heap.size + 1 = E at *
    generalize hB : w.heap.size = B at *
    have HB := Lib.hid hB
    have HE := Lib.hid hE
    clear hB hE
    have c0 := b1.cell (k := 0) rfl
    have c1 := b1.cell (k := 1) rfl
    have c2 := b1.cell (k := 2) rfl
    have c3 := b1.cell (k := 3) rfl
    have c4 := b1.cell (k := 4) rfl
    refine (RD w2 g1).mono ?_
    rintro e w3 ⟨rfl, g3⟩
    have b13 := b1.later g3
    have b23 := b2.later g3
    have G3 := Grows.trans g1 g3
    have k0 := b13.cell (k := 0) rfl
    have k1 := b13.cell (k := 1) rfl
    have k2 := b13.cell (k := 2) rfl
    have k3 := b13.cell (k := 3) rfl
    have k4 := b13.cell (k := 4) rfl
    go_wp2_with (refine wpList_storeT rfl 39 (.tmp 4) (.tmp 16) rfl E _ [rv D.room, sv, lv, wv, rv D.power] 5 rfl rfl b23 rfl rfl d_size hDL ?_; intro w9 b9 t9)
    (try simp only [Exit.inBlock, Exit.then])
    refine bodyPost_ret (res_has_two (vs := [rv D.room, sv, lv, wv, rv D.power]) Tryz.results35 _ rfl Tryz.underlying39 rfl d_size b9) rfl ?_
    have hbb := HB.out
    have hee := HE.out
    refine ⟨sv, wv, by rw [HR.out]; rfl, ?_, ?_⟩
    · rw [HR.out]
      exact (((h.cut).later G3).turned t9 (fun k hk e => by have := hk.2; omega)).mono fun k hk => .inl hk.1
    · exact ((Turns.of_grows (S := fun k => B ≤ k) G3).trans (t9.mono fun k _ e => by omega)).grows (fun k hk => by omega)
set_option maxHeartbeats 4000000 in
theorem rename_r (D : Dk) (sv lv wv : Value) (w : World) (ok : Nat → Prop) (p q : Byts) (h : RDk w ok sv lv wv D) (hn : D.seen.length ≤ 1000000) (hw : D.waits.length ≤ 1000000) (hp : -1 ≤ D.power ∧ D.power ≤ 9223372036854775807) (hq : q.length ≤ 1000000) :
    Calls Tryz.prog 86 #[dV D sv lv wv, tv p, tv q] w fun e w' => ∃ sv' wv', e = .returned (.tuple #[dV (renameD D p q).1 sv' lv wv', rv (renameD D p q).2]) ∧ RDk w' (Nw w ok) sv' lv wv' (renameD D p q).1 ∧ Grows w w' := by
  have hDL := dL_one h
  obtain ⟨b1, b2, g1, s1⟩ := two_b w (dL D sv lv wv) zeroD 39 39 _ rfl
  clear s1
  have NM := fun u => named_r q u hq
  cases e1 : namedB q with
  | false =>
    rw [e1] at NM
    obtain ⟨R, hR⟩ : ∃ R, R = renameD D p q := ⟨_, rfl⟩
    rw [← hR]
    rw [rename_eq, if_pos e1] at hR
    have HR := Lib.hid hR
    unfold dL at *
    clear hR hn hw hp e1 hq
    go_enter Tryz.func86, Tryz.ntmps86
    go_wp2_with fail
    change Calls _ _ _ (((w.alloc (.cells [rv D.room, sv, lv, wv, rv D.power].toArray 39)).alloc (.cells [rv 0, .slice none 0 0, .slice none 0 0, .slice none 0 0, rv 0].toArray 39))) _
    generalize (w.alloc (.cells [rv D.room, sv, lv, wv, rv D.power].toArray 39)).alloc (.cells [rv 0, .slice none 0 0, .slice none 0 0, .slice none 0 0, rv 0].toArray 39) = w2 at *
    generalize hE : w.heap.size + 1 = E at *
    generalize hB : w.heap.size = B at *
    have HB := Lib.hid hB
    have HE := Lib.hid hE
    clear hB hE
    have c0 := b1.cell (k := 0) rfl
    have c1 := b1.cell (k := 1) rfl
    have c2 := b1.cell (k := 2) rfl
    have c3 := b1.cell (k := 3) rfl
    have c4 := b1.cell (k := 4) rfl
    refine (NM w2).mono ?_
    rintro e w2 ⟨rfl, rfl⟩
    go_wp2_with (refine wpList_storeT rfl 39 (.tmp 6) (.tmp 15) rfl E _ [rv D.room, sv, lv, wv, rv D.power] 5 rfl rfl b2 rfl rfl d_size hDL ?_; intro w9 b9 t9)
    (try simp only [Exit.inBlock, Exit.then])
    refine bodyPost_ret (res_has_two (vs := [rv D.room, sv, lv, wv, rv D.power]) Tryz.results86 _ rfl Tryz.underlying39 rfl d_size b9) rfl ?_
    have hbb := HB.out
    have hee := HE.out
    refine ⟨sv, wv, by rw [HR.out]; rfl, ?_, ?_⟩
    · rw [HR.out]
      exact (((h.cut).later g1).turned t9 (fun k hk e => by have := hk.2; omega)).mono fun k hk => .inl hk.1
    · exact ((Turns.of_grows (S := fun k => B ≤ k) g1).trans (t9.mono fun k _ e => by omega)).grows (fun k hk => by omega)
  | true =>
    rw [e1] at NM
    have RD := fun u (hu' : Grows w u) => read_r D sv lv wv u ok p (h.later hu') hn
    have DO := fun u (hu' : Grows w u) => do_r D sv lv wv u (fun k => ok k ∧ k < w.heap.size) (.rn p q) (h.cut.later hu') hn hw hp
    obtain ⟨R, hR⟩ : ∃ R, R = renameD D p q := ⟨_, rfl⟩
    rw [← hR]
    rw [rename_eq] at hR
    rw [if_neg (by rw [e1]; simp)] at hR
    clear e1 hq
    generalize readD D p = rd at *
    obtain ⟨y, r⟩ := rd
    simp only at RD hR
    unfold dL at *
    by_cases e3 : r = 0
    · subst e3
      rw [if_pos rfl] at hR
      have HR := Lib.hid hR
      clear hR hn hw hp
      go_enter Tryz.func86, Tryz.ntmps86
      go_wp2_with fail
      change Calls _ _ _ (((w.alloc (.cells [rv D.room, sv, lv, wv, rv D.power].toArray 39)).alloc (.cells [rv 0, .slice none 0 0, .slice none 0 0, .slice none 0 0, rv 0].toArray 39))) _
      generalize (w.alloc (.cells [rv D.room, sv, lv, wv, rv D.power].toArray 39)).alloc (.cells [rv 0, .slice none 0 0, .slice none 0 0, .slice none 0 0, rv 0].toArray 39) = w2 at *
      generalize hE : w.heap.size + 1 = E at *
      generalize hB : w.heap.size = B at *
      have HB := Lib.hid hB
      have HE := Lib.hid hE
      clear hB hE
      have c0 := b1.cell (k := 0) rfl
      have c1 := b1.cell (k := 1) rfl
      have c2 := b1.cell (k := 2) rfl
      have c3 := b1.cell (k := 3) rfl
      have c4 := b1.cell (k := 4) rfl
      refine (NM w2).mono ?_
      rintro e w2 ⟨rfl, rfl⟩
      go_wp2_with fail
      refine (RD w2 g1).mono ?_
      rintro e w3 ⟨rfl, g3⟩
      have b13 := b1.later g3
      have b23 := b2.later g3
      have G3 := Grows.trans g1 g3
      have k0 := b13.cell (k := 0) rfl
      have k1 := b13.cell (k := 1) rfl
      have k2 := b13.cell (k := 2) rfl
      have k3 := b13.cell (k := 3) rfl
      have k4 := b13.cell (k := 4) rfl
      go_wp2_with fail
      refine (DO w3 G3).mono ?_
      rintro e w5 ⟨sv', wv', rfl, h5, g5⟩
      have b25 := b23.later g5
      have hb2 := b23.lt
      have hl5 := g3.size
      have hDL5 := dL_one h5
      unfold dL at hDL5
      go_wp2_with (refine wpList_storeT rfl 39 (.tmp 6) (.tmp 30) rfl E _ [rv (D.do_ (.rn p q)).room, sv', lv, wv', rv (D.do_ (.rn p q)).power] 5 rfl rfl b25 rfl rfl d_size hDL5 ?_; intro w9 b9 t9)
      (try simp only [Exit.inBlock, Exit.then])
      refine bodyPost_ret (res_has_two (vs := [rv (D.do_ (.rn p q)).room, sv', lv, wv', rv (D.do_ (.rn p q)).power]) Tryz.results86 _ rfl Tryz.underlying39 rfl d_size b9) rfl ?_
      have hbb := HB.out
      have hee := HE.out
      have hlt := g1.size
      refine ⟨sv', wv', by rw [HR.out]; rfl, ?_, ?_⟩
      · rw [HR.out]
        exact (h5.turned t9 (fun k hk e => by rcases hk with hk | hk <;> omega)).mono fun k hk => by rcases hk with hk | hk; exact .inl hk.1; exact .inr (by omega)
      · exact ((Turns.of_grows (S := fun k => B ≤ k) (Grows.trans G3 g5)).trans (t9.mono fun k _ e => by omega)).grows (fun k hk => by omega)
    · rw [if_neg e3] at hR
      have HR := Lib.hid hR
      have d3 : (r != 0) = true := by simpa using e3
      have d3' : (r == 0) = false := by simpa using e3
      clear hR hn hw hp e3 DO
      go_enter Tryz.func86, Tryz.ntmps86
      go_wp2_with fail
      change Calls _ _ _ (((w.alloc (.cells [rv D.room, sv, lv, wv, rv D.power].toArray 39)).alloc (.cells [rv 0, .slice none 0 0, .slice none 0 0, .slice none 0 0, rv 0].toArray 39))) _
      generalize (w.alloc (.cells [rv D.room, sv, lv, wv, rv D.power].toArray 39)).alloc (.cells [rv 0, .slice none 0 0, .slice none 0 0, .slice none 0 0, rv 0].toArray 39) = w2 at *
      generalize hE : w.heap.size + 1 = E at *
      generalize hB : w.heap.size = B at *
      have HB := Lib.hid hB
      have HE := Lib.hid hE
      clear hB hE
      have c0 := b1.cell (k := 0) rfl
      have c1 := b1.cell (k := 1) rfl
      have c2 := b1.cell (k := 2) rfl
      have c3 := b1.cell (k := 3) rfl
      have c4 := b1.cell (k := 4) rfl
      refine (NM w2).mono ?_
      rintro e w2 ⟨rfl, rfl⟩
      go_wp2_with fail
      refine (RD w2 g1).mono ?_
      rintro e w3 ⟨rfl, g3⟩
      have b13 := b1.later g3
      have b23 := b2.later g3
      have G3 := Grows.trans g1 g3
      have k0 := b13.cell (k := 0) rfl
      have k1 := b13.cell (k := 1) rfl
      have k2 := b13.cell (k := 2) rfl
      have k3 := b13.cell (k := 3) rfl
      have k4 := b13.cell (k := 4) rfl
      go_wp2_with (refine wpList_storeT rfl 39 (.tmp 6) (.tmp 24) rfl E _ [rv D.room, sv, lv, wv, rv D.power] 5 rfl rfl b23 rfl rfl d_size hDL ?_; intro w9 b9 t9)
      (try simp only [Exit.inBlock, Exit.then])
      refine bodyPost_ret (res_has_two (vs := [rv D.room, sv, lv, wv, rv D.power]) Tryz.results86 _ rfl Tryz.underlying39 rfl d_size b9) rfl ?_
      have hbb := HB.out
      have hee := HE.out
      refine ⟨sv, wv, by rw [HR.out]; rfl, ?_, ?_⟩
      · rw [HR.out]
        exact (((h.cut).later G3).turned t9 (fun k hk e => by have := hk.2; omega)).mono fun k hk => .inl hk.1
      · exact ((Turns.of_grows (S := fun k => B ≤ k) G3).trans (t9.mono fun k _ e => by omega)).grows (fun k hk => by omega)
set_option maxHeartbeats 4000000 in
theorem sync_r (D : Dk) (sv lv wv : Value) (w : World) (ok : Nat → Prop) (h : RDk w ok sv lv wv D) (hp : -1 ≤ D.power ∧ D.power ≤ 9223372036854775807) :
    Calls Tryz.prog 84 #[dV D sv lv wv] w fun e w' => ∃ lv' wv', e = .returned (.tuple #[dV (syncD D).1 sv lv' wv', rv (syncD D).2]) ∧ RDk w' (Nw w ok) sv lv' wv' (syncD D).1 ∧ Grows w w' := by
  have hDL := dL_one h
  obtain ⟨b1, b2, g1, s1⟩ := two_b w (dL D sv lv wv) zeroD 39 39 _ rfl
  clear s1
  unfold dL at *
  obtain ⟨R, hR⟩ : ∃ R, R = syncD D := ⟨_, rfl⟩
  rw [← hR]
  unfold syncD at hR
  by_cases e2 : D.power = 0
  · rw [if_pos e2] at hR
    have d2 : (D.power == 0) = true := by simpa using e2
    have HR := Lib.hid hR
    clear hR e2 hp
    go_enter Tryz.func84, Tryz.ntmps84
    go_wp2_with (first | (change wpList _ _ _ _ _ ((w.alloc (.cells [rv D.room, sv, lv, wv, rv D.power].toArray 39)).alloc (.cells [rv 0, .slice none 0 0, .slice none 0 0, .slice none 0 0, rv 0].toArray 39)); generalize (w.alloc (.cells [rv D.room, sv, lv, wv, rv D.power].toArray 39)).alloc (.cells [rv 0, .slice none 0 0, .slice none 0 0, .slice none 0 0, rv 0].toArray 39) = w2 at *; generalize hE : w.heap.size + 1 = E at *; generalize hB : w.heap.size = B at *; have HB := Lib.hid hB; have HE := Lib.hid hE; clear hB hE; have c0 := b1.cell (k := 0) rfl; have c1 := b1.cell (k := 1) rfl; have c2 := b1.cell (k := 2) rfl; have c3 := b1.cell (k := 3) rfl; have c4 := b1.cell (k := 4) rfl) | (refine wpList_storeT rfl 39 (.tmp 2) (.tmp 7) rfl E _ [rv D.room, sv, lv, wv, rv D.power] 5 rfl rfl b2 rfl rfl d_size hDL ?_; intro w9 b9 t9))
    (try simp only [Exit.inBlock, Exit.then])
    refine bodyPost_ret (res_has_two (vs := [rv D.room, sv, lv, wv, rv D.power]) Tryz.results84 _ rfl Tryz.underlying39 rfl d_size b9) rfl ?_
    have hbb := HB.out
    have hee := HE.out
    refine ⟨lv, wv, by rw [HR.out]; rfl, ?_, ?_⟩
    · rw [HR.out]
      exact (((h.cut).later g1).turned t9 (fun k hk e => by have := hk.2; omega)).mono fun k hk => .inl hk.1
    · exact ((Turns.of_grows (S := fun k => B ≤ k) g1).trans (t9.mono fun k _ e => by omega)).grows (fun k hk => by omega)
  · rw [if_neg e2] at hR
    have d2 : (D.power == 0) = false := by simpa using e2
    obtain ⟨A1, n1, rfl⟩ := h.seen.form
    have hD2 : ∀ pw : Int, ∀ u ∈ [rv D.room, .slice A1 D.seen.length n1, .slice A1 D.seen.length n1, .slice none 0 0, rv pw], u.oneCell' = true := fun pw u hu => by
      simp at hu
      rcases hu with rfl | rfl | rfl | rfl <;> rfl
    by_cases hpos : 0 < D.power
    · have dp : decide (D.power > 0) = true := by simpa using hpos
      have wp : wrap64 (D.power - 1) = D.power - 1 := by unfold wrap64; omega
      have hpw : D.spent.power = D.power - 1 := if_pos hpos
      have HPW := Lib.hid hpw
      have HR := Lib.hid hR
      clear hR e2 hp hpos hpw
      go_enter Tryz.func84, Tryz.ntmps84
      go_wp2_with (first | (change wpList _ _ _ _ _ ((w.alloc (.cells [rv D.room, (.slice A1 D.seen.length n1), lv, wv, rv D.power].toArray 39)).alloc (.cells [rv 0, .slice none 0 0, .slice none 0 0, .slice none 0 0, rv 0].toArray 39)); generalize (w.alloc (.cells [rv D.room, (.slice A1 D.seen.length n1), lv, wv, rv D.power].toArray 39)).alloc (.cells [rv 0, .slice none 0 0, .slice none 0 0, .slice none 0 0, rv 0].toArray 39) = w2 at *; generalize hE : w.heap.size + 1 = E at *; generalize hB : w.heap.size = B at *; have HB := Lib.hid hB; have HE := Lib.hid hE; clear hB hE; have c0 := b1.cell (k := 0) rfl; have c1 := b1.cell (k := 1) rfl; have c2 := b1.cell (k := 2) rfl; have c3 := b1.cell (k := 3) rfl; have c4 := b1.cell (k := 4) rfl; have s0f := b1.free 2; have s0h : Has (w2.setCell ⟨B, 2, none⟩ ((.slice A1 D.seen.length n1))) B [rv D.room, (.slice A1 D.seen.length n1), (.slice A1 D.seen.length n1), wv, rv D.power] := b1.set_ (k := 2) (by simp) ((.slice A1 D.seen.length n1)); have s0t := Turns.of_set (S := fun q => q = B) (b := B) (o := 2) w2 ((.slice A1 D.seen.length n1)) rfl; have s0c0 := s0h.cell (k := 0) rfl; have s0c1 := s0h.cell (k := 1) rfl; have s0c2 := s0h.cell (k := 2) rfl; have s0c3 := s0h.cell (k := 3) rfl; have s0c4 := s0h.cell (k := 4) rfl; have s1f := s0h.free 3; have s1h : Has ((w2.setCell ⟨B, 2, none⟩ ((.slice A1 D.seen.length n1))).setCell ⟨B, 3, none⟩ (.slice none 0 0)) B [rv D.room, (.slice A1 D.seen.length n1), (.slice A1 D.seen.length n1), .slice none 0 0, rv D.power] := s0h.set_ (k := 3) (by simp) (.slice none 0 0); have s1t := Turns.of_set (S := fun q => q = B) (b := B) (o := 3) (w2.setCell ⟨B, 2, none⟩ ((.slice A1 D.seen.length n1))) (.slice none 0 0) rfl; have s1c0 := s1h.cell (k := 0) rfl; have s1c1 := s1h.cell (k := 1) rfl; have s1c2 := s1h.cell (k := 2) rfl; have s1c3 := s1h.cell (k := 3) rfl; have s1c4 := s1h.cell (k := 4) rfl; have s2f := s1h.free 4; have s2h : Has (((w2.setCell ⟨B, 2, none⟩ ((.slice A1 D.seen.length n1))).setCell ⟨B, 3, none⟩ (.slice none 0 0)).setCell ⟨B, 4, none⟩ (rv (D.power - 1))) B [rv D.room, (.slice A1 D.seen.length n1), (.slice A1 D.seen.length n1), .slice none 0 0, rv (D.power - 1)] := s1h.set_ (k := 4) (by simp) (rv (D.power - 1)); have s2t := Turns.of_set (S := fun q => q = B) (b := B) (o := 4) ((w2.setCell ⟨B, 2, none⟩ ((.slice A1 D.seen.length n1))).setCell ⟨B, 3, none⟩ (.slice none 0 0)) (rv (D.power - 1)) rfl; have s2c0 := s2h.cell (k := 0) rfl; have s2c1 := s2h.cell (k := 1) rfl; have s2c2 := s2h.cell (k := 2) rfl; have s2c3 := s2h.cell (k := 3) rfl; have s2c4 := s2h.cell (k := 4) rfl; have TT := ((s0t.trans s1t).trans s2t); have b29 := b2.turned TT (by have := HB.out; have := HE.out; omega)) | (refine wpList_storeT rfl 39 (.tmp 2) (.tmp 19) rfl E _ [rv D.room, (.slice A1 D.seen.length n1), (.slice A1 D.seen.length n1), .slice none 0 0, rv (D.power - 1)] 5 rfl rfl b29 rfl rfl d_size (hD2 _) ?_; intro w9 b9 t9))
      (try simp only [Exit.inBlock, Exit.then])
      refine bodyPost_ret (res_has_two (vs := [rv D.room, (.slice A1 D.seen.length n1), (.slice A1 D.seen.length n1), .slice none 0 0, rv (D.power - 1)]) Tryz.results84 _ rfl Tryz.underlying39 rfl d_size b9) rfl ?_
      have hbb := HB.out
      have hee := HE.out
      have r9 : RDk w9 (fun k => ok k ∧ k < w.heap.size) (.slice A1 D.seen.length n1) (.slice A1 D.seen.length n1) (.slice none 0 0) { D.spent with lasts := D.seen, waits := [] } :=
        ⟨((h.cut.seen.later g1).turned TT (fun k hk e => by have := hk.2; omega)).turned t9 (fun k hk e => by have := hk.2; omega), ((h.cut.seen.later g1).turned TT (fun k hk e => by have := hk.2; omega)).turned t9 (fun k hk e => by have := hk.2; omega), CsV.nil _ _⟩
      refine ⟨(.slice A1 D.seen.length n1), .slice none 0 0, ?_, ?_, ?_⟩
      · rw [HR.out]
        show _ = Ending.returned (.tuple #[.agg #[rv D.room, (.slice A1 D.seen.length n1), (.slice A1 D.seen.length n1), .slice none 0 0, rv D.spent.power], rv 0])
        rw [HPW.out]; rfl
      · rw [HR.out]
        exact r9.mono fun k hk => .inl hk.1
      · exact (((Turns.of_grows (S := fun k => B ≤ k) g1).trans (TT.mono fun k _ e => by omega)).trans (t9.mono fun k _ e => by omega)).grows (fun k hk => by omega)
    · have dp : decide (D.power > 0) = false := by simpa using hpos
      have hpw : D.spent.power = D.power := if_neg hpos
      have HPW := Lib.hid hpw
      have HR := Lib.hid hR
      clear hR e2 hp hpos hpw
      go_enter Tryz.func84, Tryz.ntmps84
      go_wp2_with (first | (change wpList _ _ _ _ _ ((w.alloc (.cells [rv D.room, (.slice A1 D.seen.length n1), lv, wv, rv D.power].toArray 39)).alloc (.cells [rv 0, .slice none 0 0, .slice none 0 0, .slice none 0 0, rv 0].toArray 39)); generalize (w.alloc (.cells [rv D.room, (.slice A1 D.seen.length n1), lv, wv, rv D.power].toArray 39)).alloc (.cells [rv 0, .slice none 0 0, .slice none 0 0, .slice none 0 0, rv 0].toArray 39) = w2 at *; generalize hE : w.heap.size + 1 = E at *; generalize hB : w.heap.size = B at *; have HB := Lib.hid hB; have HE := Lib.hid hE; clear hB hE; have c0 := b1.cell (k := 0) rfl; have c1 := b1.cell (k := 1) rfl; have c2 := b1.cell (k := 2) rfl; have c3 := b1.cell (k := 3) rfl; have c4 := b1.cell (k := 4) rfl; have s0f := b1.free 2; have s0h : Has (w2.setCell ⟨B, 2, none⟩ ((.slice A1 D.seen.length n1))) B [rv D.room, (.slice A1 D.seen.length n1), (.slice A1 D.seen.length n1), wv, rv D.power] := b1.set_ (k := 2) (by simp) ((.slice A1 D.seen.length n1)); have s0t := Turns.of_set (S := fun q => q = B) (b := B) (o := 2) w2 ((.slice A1 D.seen.length n1)) rfl; have s0c0 := s0h.cell (k := 0) rfl; have s0c1 := s0h.cell (k := 1) rfl; have s0c2 := s0h.cell (k := 2) rfl; have s0c3 := s0h.cell (k := 3) rfl; have s0c4 := s0h.cell (k := 4) rfl; have s1f := s0h.free 3; have s1h : Has ((w2.setCell ⟨B, 2, none⟩ ((.slice A1 D.seen.length n1))).setCell ⟨B, 3, none⟩ (.slice none 0 0)) B [rv D.room, (.slice A1 D.seen.length n1), (.slice A1 D.seen.length n1), .slice none 0 0, rv D.power] := s0h.set_ (k := 3) (by simp) (.slice none 0 0); have s1t := Turns.of_set (S := fun q => q = B) (b := B) (o := 3) (w2.setCell ⟨B, 2, none⟩ ((.slice A1 D.seen.length n1))) (.slice none 0 0) rfl; have s1c0 := s1h.cell (k := 0) rfl; have s1c1 := s1h.cell (k := 1) rfl; have s1c2 := s1h.cell (k := 2) rfl; have s1c3 := s1h.cell (k := 3) rfl; have s1c4 := s1h.cell (k := 4) rfl; have TT := (s0t.trans s1t); have b29 := b2.turned TT (by have := HB.out; have := HE.out; omega)) | (refine wpList_storeT rfl 39 (.tmp 2) (.tmp 19) rfl E _ [rv D.room, (.slice A1 D.seen.length n1), (.slice A1 D.seen.length n1), .slice none 0 0, rv D.power] 5 rfl rfl b29 rfl rfl d_size (hD2 _) ?_; intro w9 b9 t9))
      (try simp only [Exit.inBlock, Exit.then])
      refine bodyPost_ret (res_has_two (vs := [rv D.room, (.slice A1 D.seen.length n1), (.slice A1 D.seen.length n1), .slice none 0 0, rv D.power]) Tryz.results84 _ rfl Tryz.underlying39 rfl d_size b9) rfl ?_
      have hbb := HB.out
      have hee := HE.out
      have r9 : RDk w9 (fun k => ok k ∧ k < w.heap.size) (.slice A1 D.seen.length n1) (.slice A1 D.seen.length n1) (.slice none 0 0) { D.spent with lasts := D.seen, waits := [] } :=
        ⟨((h.cut.seen.later g1).turned TT (fun k hk e => by have := hk.2; omega)).turned t9 (fun k hk e => by have := hk.2; omega), ((h.cut.seen.later g1).turned TT (fun k hk e => by have := hk.2; omega)).turned t9 (fun k hk e => by have := hk.2; omega), CsV.nil _ _⟩
      refine ⟨(.slice A1 D.seen.length n1), .slice none 0 0, ?_, ?_, ?_⟩
      · rw [HR.out]
        show _ = Ending.returned (.tuple #[.agg #[rv D.room, (.slice A1 D.seen.length n1), (.slice A1 D.seen.length n1), .slice none 0 0, rv D.spent.power], rv 0])
        rw [HPW.out]; rfl
      · rw [HR.out]
        exact r9.mono fun k hk => .inl hk.1
      · exact (((Turns.of_grows (S := fun k => B ≤ k) g1).trans (TT.mono fun k _ e => by omega)).trans (t9.mono fun k _ e => by omega)).grows (fun k hk => by omega)
set_option maxHeartbeats 4000000 in
theorem power_r (D : Dk) (sv lv wv : Value) (w : World) (ok : Nat → Prop) (n : Int) (h : RDk w ok sv lv wv D) :
    Calls Tryz.prog 37 #[dV D sv lv wv, .int .i64 n] w fun e w' => e = .returned (dV { D with power := max n (-1) } sv lv wv) ∧ Grows w w' := by
  have hDL := dL_one h
  obtain ⟨b1, b2, g1, s1⟩ := two_b w (dL D sv lv wv) zeroD 39 39 _ rfl
  clear s1
  unfold dL at *
  have hD2 : ∀ u ∈ [rv D.room, sv, lv, wv, rv (max n (-1))], u.oneCell' = true := fun u hu => by
    simp at hu
    rcases hu with rfl | rfl | rfl | rfl | rfl
    · rfl
    · exact hDL _ (by simp)
    · exact hDL _ (by simp)
    · exact hDL _ (by simp)
    · rfl
  go_enter Tryz.func37, Tryz.ntmps37
  go_wp2_with (first | (change wpList _ _ _ _ _ ((w.alloc (.cells [rv D.room, sv, lv, wv, rv D.power].toArray 39)).alloc (.cells [rv 0, .slice none 0 0, .slice none 0 0, .slice none 0 0, rv 0].toArray 39)); generalize (w.alloc (.cells [rv D.room, sv, lv, wv, rv D.power].toArray 39)).alloc (.cells [rv 0, .slice none 0 0, .slice none 0 0, .slice none 0 0, rv 0].toArray 39) = w2 at *; generalize hE : w.heap.size + 1 = E at *; generalize hB : w.heap.size = B at *; have HB := Lib.hid hB; have HE := Lib.hid hE; clear hB hE; have c0 := b1.cell (k := 0) rfl; have c1 := b1.cell (k := 1) rfl; have c2 := b1.cell (k := 2) rfl; have c3 := b1.cell (k := 3) rfl; have c4 := b1.cell (k := 4) rfl; have s0f := b1.free 4; have s0h : Has (w2.setCell ⟨B, 4, none⟩ (rv (max n (-1)))) B [rv D.room, sv, lv, wv, rv (max n (-1))] := b1.set_ (k := 4) (by simp) (rv (max n (-1))); have s0t := Turns.of_set (S := fun q => q = B) (b := B) (o := 4) w2 (rv (max n (-1))) rfl; have s0c0 := s0h.cell (k := 0) rfl; have s0c1 := s0h.cell (k := 1) rfl; have s0c2 := s0h.cell (k := 2) rfl; have s0c3 := s0h.cell (k := 3) rfl; have s0c4 := s0h.cell (k := 4) rfl; have b29 := b2.turned s0t (by have := HB.out; have := HE.out; omega)) | (refine wpList_storeT rfl 39 (.tmp 4) (.tmp 8) rfl E _ [rv D.room, sv, lv, wv, rv (max n (-1))] 5 rfl rfl b29 rfl rfl d_size hD2 ?_; intro w9 b9 t9))
  (try simp only [Exit.inBlock, Exit.then])
  refine bodyPost_ret (res_has (vs := [rv D.room, sv, lv, wv, rv (max n (-1))]) rfl _ rfl Tryz.underlying39 rfl d_size b9) rfl ?_
  have hbb := HB.out
  have hee := HE.out
  exact ⟨rfl, (((Turns.of_grows (S := fun k => B ≤ k) g1).trans (s0t.mono fun k _ e => by omega)).trans (t9.mono fun k _ e => by omega)).grows (fun k hk => by omega)⟩
end Go.Proofs.YtbcldknecdbemaaGreatDoor

/-
  The reference's Restart.
-/
namespace Go.Proofs.YtbcldknecdbemaaGreatDoor
open Go.RowKit
set_option linter.unusedVariables false
set_option maxRecDepth 20000

theorem bit_at (ks : List Bool) (X : Nat) : (¬ X < ks.length ∧ (ks.drop X).headD false = false) ∨ (∃ b, X < ks.length ∧ ks[X]? = some b ∧ (ks.drop X).headD false = b) := by
  by_cases h : X < ks.length
  · exact .inr ⟨ks[X], h, List.getElem?_eq_getElem h, by rw [List.drop_eq_getElem_cons h]; rfl⟩
  · exact .inl ⟨h, by rw [List.drop_eq_nil_of_le (by omega)]; rfl⟩
theorem put_len' (S : Fls) (p b : Byts) : (fPut S p b).length ≤ S.length + 1 := by
  have h1 := (fPut_perm S (p := p) (b := b)).length_eq
  have h2 := (fDel_sub S p).length_le
  rw [h1]; simp; omega
theorem mk_len (S : Fls) (c : Chg) : (mkF S c).length ≤ S.length + 1 := by
  cases c with
  | wr p b => exact put_len' S p b
  | rn p q =>
    show (match fGet S p with | none => S | some b => fPut (fDel S p) q b).length ≤ _
    split
    · omega
    · have := put_len' (fDel S p) q (by assumption)
      have h2 := (fDel_sub S p).length_le
      omega
  | rm p => have := (fDel_sub S p).length_le; show (fDel S p).length ≤ _; omega
theorem rst_no {c : Chg} {r : List Chg} {ks : List Bool} {S : Fls} (h : ks.headD false = false) : rstF (c :: r) ks S = rstF r ks.tail S := by
  conv => lhs; unfold rstF
  rw [if_neg (by rw [h]; exact Bool.false_ne_true)]
theorem rst_wr {p b : Byts} {r : List Chg} {ks : List Bool} {S : Fls} (h : ks.headD false = true) : rstF (.wr p b :: r) ks S = rstF r ks.tail.tail (mkF S (.wr p (if ks.tail.headD false = true then b else halfB b))) := by
  show (if ks.headD false = true then _ else _) = _
  rw [if_pos h]; rfl
theorem rst_rn {p q : Byts} {r : List Chg} {ks : List Bool} {S : Fls} (h : ks.headD false = true) : rstF (.rn p q :: r) ks S = rstF r ks.tail (mkF S (.rn p q)) := by
  show (if ks.headD false = true then _ else _) = _
  rw [if_pos h]
theorem rst_rm {p : Byts} {r : List Chg} {ks : List Bool} {S : Fls} (h : ks.headD false = true) : rstF (.rm p :: r) ks S = rstF r ks.tail (mkF S (.rm p)) := by
  show (if ks.headD false = true then _ else _) = _
  rw [if_pos h]
theorem ix_arith (q nk : Nat) (h : q < nk) (h2 : nk ≤ 1000000) : wrap64 ((nk : Int) - 1) = (nk : Int) - 1 ∧ min (q : Int) (max ((nk : Int) - 1) 0) = (q : Int) := by
  refine ⟨by unfold wrap64; omega, by omega⟩
theorem cell_at_r {w : World} {a : Addr} {j : Nat} {u : Value} (h : w.cell? (a.add (j + 1)) = some u) : w.cell? ⟨a.block, a.off + (j + 1), none⟩ = some u := by simpa [Addr.add] using h
theorem half_arith (n : Nat) (h : n ≤ 1000000000) : wrap64 ((n : Int) / 2) = ((n / 2 : Nat) : Int) := by unfold wrap64; omega
theorem data_le {c : Chg} : ∀ {l : List Chg} {k : Nat}, l[k]? = some c → c.data ≤ dataSum l
  | [], k, h => by simp at h
  | x :: r, 0, h => by
    simp at h; subst h
    simp [dataSum]
  | x :: r, k + 1, h => by
    have := data_le (l := r) (k := k) (by simpa using h)
    simp [dataSum] at this ⊢
    omega
theorem c_size : (Tryz.prog.info? 120).map (·.size) = some 4 := by kernel_rfl
theorem load_c {w : World} {g j : Nat} {c : Chg} (h : w.rangeAt g j (cC c)) : (Instr.loadAt 120 (.pointer (some ⟨g, j, none⟩))).run Tryz.prog w = .ok (.agg (cC c).toArray) w :=
  range_load (cs := cC c) h Tryz.underlying120 rfl (by rw [cC_len]; exact c_size)

set_option maxHeartbeats 4000000 in
theorem restart_r (D : Dk) (sv lv wv : Value) (w : World) (ok : Nat → Prop) (Ak : Option Addr) (nk ck : Nat) (ks : List Bool) (h : RDk w ok sv lv wv D) (hks : ks.length = nk) (hkl : Lies w w.heap.size Ak (ks.map .bool)) (hnk : nk ≤ 1000000) (hlw : D.lasts.length + D.waits.length ≤ 1000000) (hds : dataSum D.waits ≤ 1000000000) :
    Calls Tryz.prog 38 #[dV D sv lv wv, .slice Ak nk ck] w fun e w' => ∃ v, e = .returned (dV (restartD D ks) v v (.slice none 0 0)) ∧ RDk w' (Nw w ok) v v (.slice none 0 0) (restartD D ks) ∧ Grows w w' := by
  have hDL := dL_one h
  obtain ⟨b1, b2, g1, s1⟩ := two_b w (dL D sv lv wv) zeroD 39 39 _ rfl
  clear s1
  unfold dL at *
  obtain ⟨Aw, cw, rfl⟩ := h.waits.form
  obtain ⟨m, hm⟩ : ∃ m, m = D.waits.length := ⟨_, rfl⟩
  rw [← hm] at h hDL hlw b1 b2 g1 ⊢
  have HM := Lib.hid hm
  have HKS := Lib.hid hks
  clear hm hks
  go_enter Tryz.func38, Tryz.ntmps38
  go_wp2_with fail
  change Code.wp _ _ _ _ ((w.alloc (.cells [rv D.room, sv, lv, .slice Aw m cw, rv D.power].toArray 39)).alloc (.cells [rv 0, .slice none 0 0, .slice none 0 0, .slice none 0 0, rv 0].toArray 39))
  generalize (w.alloc (.cells [rv D.room, sv, lv, .slice Aw m cw, rv D.power].toArray 39)).alloc (.cells [rv 0, .slice none 0 0, .slice none 0 0, .slice none 0 0, rv 0].toArray 39) = w2 at *
  generalize hE : w.heap.size + 1 = E at *
  generalize hB : w.heap.size = B at *
  have HB := Lib.hid hB
  have HE := Lib.hid hE
  have hBE : E = B + 1 := by omega
  have HBE := Lib.hid hBE
  clear hB hE hBE
  have h0 := h.cut
  rw [HB.out] at h0
  go_loopw [5, 6] (fun at_ i wr => ∃ (k q : Nat) (S : Fls) (lvi : Value), k ≤ m ∧ i = .int .i64 (k : Int) ∧ at_ = .int .i64 (q : Int) ∧ q ≤ 2 * k ∧ S.length ≤ D.lasts.length + k ∧ Hid (rstF D.waits ks D.lasts = rstF (D.waits.drop k) (ks.drop q) S) ∧ Has wr B [rv D.room, sv, lvi, .slice Aw m cw, rv D.power] ∧ Has wr E zeroD ∧ FsV wr (fun k => (ok k ∧ k < B) ∨ E < k) lvi S ∧ Grows w wr) (fun _ i _ => m - (intOf i).toNat)
  case atStart => exact ⟨0, 0, D.lasts, lv, Nat.zero_le _, rfl, rfl, Nat.le_refl _, Nat.le_refl _, rfl, b1, b2, (h0.lasts.later g1).mono fun k hk => .inl hk, g1⟩
  case round =>
    obtain ⟨k, q, S, lvi, hk, rfl, rfl, hq, hS, HR, hb, hz, hl, G⟩ := hrel
    have c0 := hb.cell (k := 0) rfl
    have c1 := hb.cell (k := 1) rfl
    have c2 := hb.cell (k := 2) rfl
    have c3 := hb.cell (k := 3) rfl
    have c4 := hb.cell (k := 4) rfl
    have hwB := HB.out
    have hkl2 : Lies wr wr.heap.size Ak (ks.map .bool) := by
      have hk := hkl
      rw [← HB.out] at hk
      exact hk.later G
    by_cases hlt : k < m
    · obtain ⟨x, hx⟩ : ∃ x, D.waits[k]? = some x := ⟨_, List.getElem?_eq_getElem (by rw [← HM.out]; exact hlt)⟩
      obtain ⟨gw, rfl, hrg⟩ := ((h.waits.later G)).at_ hx
      have hcx := load_c hrg
      have hr := HR.out
      rw [drop_at hx] at hr
      have htl : ∀ X, (ks.drop X).tail = ks.drop (X + 1) := fun X => by simp
      have hq2 : q ≤ 2000000 := by omega
      rcases bit_at ks q with ⟨hn, hbit⟩ | ⟨b, hn, hkb, hbit⟩
      · rw [rst_no hbit, htl] at hr
        have HR2 := Lib.hid hr
        rw [HKS.out] at hn
        clear hr hbit HR hx htl
        go_wp2_with fail
        go_roundw
        case rel => exact ⟨k + 1, q + 1, S, lvi, by omega, by go_num, by go_num, by omega, by omega, HR2.out, hb, hz, hl, G⟩
        case measure => simp [intOf]; omega
      · rw [HKS.out] at hn
        obtain ⟨ha1, ha2⟩ := ix_arith q nk hn hnk
        obtain ⟨ad, rfl, hadl, ca⟩ := hkl2.at_ (j := q) (u := .bool b) (by rw [List.getElem?_map, hkb]; rfl)
        cases b with
        | false =>
          rw [rst_no hbit, htl] at hr
          have HR2 := Lib.hid hr
          clear hr hbit HR hx htl hkb
          go_wp2_with fail
          go_roundw
          case rel => exact ⟨k + 1, q + 1, S, lvi, by omega, by go_num, by go_num, by omega, by omega, HR2.out, hb, hz, hl, G⟩
          case measure => simp [intOf]; omega
        | true =>
          cases x with
          | wr p d =>
            rcases bit_at ks (q + 1) with ⟨hn2, hbit2⟩ | ⟨b2, hn2, hkb2, hbit2⟩
            · rw [HKS.out] at hn2
              have hdl : d.length ≤ 1000000000 := by have := data_le hx; simp only [Chg.data] at this; omega
              have hq9 := half_arith d.length hdl
              have he : (⟨d.toArray⟩ : ByteArray).extract 0 (d.length / 2) = ⟨(halfB d).toArray⟩ := by rw [tcut]; simp [halfB]
              have hhl : (halfB d).length ≤ d.length := by simp [halfB]; omega
              have hsd := size_mk d
              rw [rst_wr hbit, htl, htl, hbit2, if_neg (by exact Bool.false_ne_true)] at hr
              have HR2 := Lib.hid hr
              clear hr hbit HR hx htl hkb
              clear hcx
              have x0 : wr.cell? ⟨gw, k * 4, none⟩ = some (rv 0) := hrg 0 _ rfl
              have x1 : wr.cell? ⟨gw, k * 4 + 1, none⟩ = some (tv p) := hrg 1 _ rfl
              have x2 : wr.cell? ⟨gw, k * 4 + 2, none⟩ = some (tv []) := hrg 2 _ rfl
              have x3 : wr.cell? ⟨gw, k * 4 + 3, none⟩ = some (tv d) := hrg 3 _ rfl
              have hcb := Has.new wr 120 [rv 0, tv [], tv [], tv []]
              have hone : ∀ u ∈ [rv 0, tv p, tv [], tv d], u.oneCell' = true := by intro u hu; simp at hu; rcases hu with rfl | rfl | rfl | rfl <;> rfl
              have gal := grows_alloc wr (.cells [rv 0, tv [], tv [], tv []].toArray 120)
              have MK := fun u (hu : Grows wr u) => make_r lvi S u _ (.wr p (halfB d)) (hl.later hu) (by omega)
              change ∀ u, Grows wr u → Calls _ _ #[lvi, .agg #[rv 0, tv p, tv [], tv (halfB d)]] u _ at MK
              go_wp2_with (refine wpList_storeT rfl 120 (.tmp 8) (.tmp 40) rfl wr.heap.size _ [rv 0, tv p, tv [], tv d] 4 rfl rfl hcb rfl rfl c_size hone ?_; intro w5 b5 t5; have G5 := turns_grow gal t5 (Nat.le_refl _); have p0 := b5.cell (k := 0) rfl; have p1 := b5.cell (k := 1) rfl; have p2 := b5.cell (k := 2) rfl; have p3 := b5.cell (k := 3) rfl; have p2B := (hb.later G5).cell (k := 2) rfl; have pf := b5.free 3; have b6 := b5.set_ (k := 3) (by simp) (tv (halfB d)); have t6 := Turns.of_set (S := fun i => i = wr.heap.size) (b := wr.heap.size) (o := 3) w5 (tv (halfB d)) rfl; have G6 := turns_grow G5 t6 (Nat.le_refl _); have r0 := b6.cell (k := 0) rfl; have r1 := b6.cell (k := 1) rfl; have r2 := b6.cell (k := 2) rfl; have r3 := b6.cell (k := 3) rfl; have r2B := (hb.later G6).cell (k := 2) rfl)
              refine (MK _ G6).mono ?_
              rintro e w7 ⟨lv', rfl, hl7, g7⟩
              obtain ⟨A7, c7, rfl⟩ := hl7.form
              have G7 := Grows.trans G6 g7
              have hb7 := hb.later G7
              have hf7 := hb7.free 2
              have q7 := hb7.cell (k := 2) rfl
              have hb8 := hb7.set_ (k := 2) (by simp) (.slice A7 (mkF S (.wr p (halfB d))).length c7)
              have t8 := Turns.of_set (S := fun i => i = B) (b := B) (o := 2) w7 (.slice A7 (mkF S (.wr p (halfB d))).length c7) rfl
              have hz8 := (hz.later G7).turned t8 (by have := HBE.out; omega)
              have hwsz := G.size
              have hblt := hb.lt
              have hzlt := hz.lt
              have h5s := G6.size
              have hl8 := (hl7.turned t8 (fun i hi e => by have := HBE.out; rcases hi with (hi | hi) | hi <;> omega)).mono (ok' := fun k => (ok k ∧ k < B) ∨ E < k) (fun i hi => by
                rcases hi with hi | hi
                · exact hi
                · exact .inr (by omega))
              have G8 : Grows w (w7.setCell ⟨B, 2, none⟩ (.slice A7 (mkF S (.wr p (halfB d))).length c7)) := ((Turns.of_grows (S := fun i => B ≤ i) (Grows.trans G G7)).trans (t8.mono fun i _ e => by omega)).grows (fun i hi => by omega)
              have hml := mk_len S (.wr p (halfB d))
              go_wp2_with fail
              go_roundw
              case rel => exact ⟨k + 1, q + 2, mkF S (.wr p (halfB d)), _, by omega, by go_num, by go_num, by omega, by omega, HR2.out, hb8, hz8, hl8, G8⟩
              case measure => simp [intOf]; omega
            · rw [HKS.out] at hn2
              obtain ⟨hb1', hb2'⟩ := ix_arith (q + 1) nk hn2 hnk
              rw [show ((q + 1 : Nat) : Int) = (q : Int) + 1 by omega] at hb2'
              obtain ⟨ad2, e2, hadl2, ca2⟩ := hkl2.at_ (j := q + 1) (u := .bool b2) (by rw [List.getElem?_map, hkb2]; rfl)
              injection e2 with e2
              subst e2
              cases b2 with
              | false =>
                have hdl : d.length ≤ 1000000000 := by have := data_le hx; simp only [Chg.data] at this; omega
                have hq9 := half_arith d.length hdl
                have he : (⟨d.toArray⟩ : ByteArray).extract 0 (d.length / 2) = ⟨(halfB d).toArray⟩ := by rw [tcut]; simp [halfB]
                have hhl : (halfB d).length ≤ d.length := by simp [halfB]; omega
                have hsd := size_mk d
                rw [rst_wr hbit, htl, htl, hbit2, if_neg (by exact Bool.false_ne_true)] at hr
                have HR2 := Lib.hid hr
                clear hr hbit HR hx htl hkb
                clear hcx
                have x0 : wr.cell? ⟨gw, k * 4, none⟩ = some (rv 0) := hrg 0 _ rfl
                have x1 : wr.cell? ⟨gw, k * 4 + 1, none⟩ = some (tv p) := hrg 1 _ rfl
                have x2 : wr.cell? ⟨gw, k * 4 + 2, none⟩ = some (tv []) := hrg 2 _ rfl
                have x3 : wr.cell? ⟨gw, k * 4 + 3, none⟩ = some (tv d) := hrg 3 _ rfl
                have hcb := Has.new wr 120 [rv 0, tv [], tv [], tv []]
                have hone : ∀ u ∈ [rv 0, tv p, tv [], tv d], u.oneCell' = true := by intro u hu; simp at hu; rcases hu with rfl | rfl | rfl | rfl <;> rfl
                have gal := grows_alloc wr (.cells [rv 0, tv [], tv [], tv []].toArray 120)
                have MK := fun u (hu : Grows wr u) => make_r lvi S u _ (.wr p (halfB d)) (hl.later hu) (by omega)
                change ∀ u, Grows wr u → Calls _ _ #[lvi, .agg #[rv 0, tv p, tv [], tv (halfB d)]] u _ at MK
                go_wp2_with (refine wpList_storeT rfl 120 (.tmp 8) (.tmp 40) rfl wr.heap.size _ [rv 0, tv p, tv [], tv d] 4 rfl rfl hcb rfl rfl c_size hone ?_; intro w5 b5 t5; have G5 := turns_grow gal t5 (Nat.le_refl _); have p0 := b5.cell (k := 0) rfl; have p1 := b5.cell (k := 1) rfl; have p2 := b5.cell (k := 2) rfl; have p3 := b5.cell (k := 3) rfl; have p2B := (hb.later G5).cell (k := 2) rfl; have ca5 : w5.cell? ⟨ad.block, ad.off + (q + 1), none⟩ = some (.bool false) := cell_at_r (hcell_later ca2 G5); have pf := b5.free 3; have b6 := b5.set_ (k := 3) (by simp) (tv (halfB d)); have t6 := Turns.of_set (S := fun i => i = wr.heap.size) (b := wr.heap.size) (o := 3) w5 (tv (halfB d)) rfl; have G6 := turns_grow G5 t6 (Nat.le_refl _); have r0 := b6.cell (k := 0) rfl; have r1 := b6.cell (k := 1) rfl; have r2 := b6.cell (k := 2) rfl; have r3 := b6.cell (k := 3) rfl; have r2B := (hb.later G6).cell (k := 2) rfl)
                refine (MK _ G6).mono ?_
                rintro e w7 ⟨lv', rfl, hl7, g7⟩
                obtain ⟨A7, c7, rfl⟩ := hl7.form
                have G7 := Grows.trans G6 g7
                have hb7 := hb.later G7
                have hf7 := hb7.free 2
                have q7 := hb7.cell (k := 2) rfl
                have hb8 := hb7.set_ (k := 2) (by simp) (.slice A7 (mkF S (.wr p (halfB d))).length c7)
                have t8 := Turns.of_set (S := fun i => i = B) (b := B) (o := 2) w7 (.slice A7 (mkF S (.wr p (halfB d))).length c7) rfl
                have hz8 := (hz.later G7).turned t8 (by have := HBE.out; omega)
                have hwsz := G.size
                have hblt := hb.lt
                have hzlt := hz.lt
                have h5s := G6.size
                have hl8 := (hl7.turned t8 (fun i hi e => by have := HBE.out; rcases hi with (hi | hi) | hi <;> omega)).mono (ok' := fun k => (ok k ∧ k < B) ∨ E < k) (fun i hi => by
                  rcases hi with hi | hi
                  · exact hi
                  · exact .inr (by omega))
                have G8 : Grows w (w7.setCell ⟨B, 2, none⟩ (.slice A7 (mkF S (.wr p (halfB d))).length c7)) := ((Turns.of_grows (S := fun i => B ≤ i) (Grows.trans G G7)).trans (t8.mono fun i _ e => by omega)).grows (fun i hi => by omega)
                have hml := mk_len S (.wr p (halfB d))
                go_wp2_with fail
                go_roundw
                case rel => exact ⟨k + 1, q + 2, mkF S (.wr p (halfB d)), _, by omega, by go_num, by go_num, by omega, by omega, HR2.out, hb8, hz8, hl8, G8⟩
                case measure => simp [intOf]; omega
              | true =>
                rw [rst_wr hbit, htl, htl, hbit2, if_pos rfl] at hr
                have HR2 := Lib.hid hr
                clear hr hbit HR hx htl hkb
                clear hcx
                have x0 : wr.cell? ⟨gw, k * 4, none⟩ = some (rv 0) := hrg 0 _ rfl
                have x1 : wr.cell? ⟨gw, k * 4 + 1, none⟩ = some (tv p) := hrg 1 _ rfl
                have x2 : wr.cell? ⟨gw, k * 4 + 2, none⟩ = some (tv []) := hrg 2 _ rfl
                have x3 : wr.cell? ⟨gw, k * 4 + 3, none⟩ = some (tv d) := hrg 3 _ rfl
                have hcb := Has.new wr 120 [rv 0, tv [], tv [], tv []]
                have hone : ∀ u ∈ [rv 0, tv p, tv [], tv d], u.oneCell' = true := by intro u hu; simp at hu; rcases hu with rfl | rfl | rfl | rfl <;> rfl
                have gal := grows_alloc wr (.cells [rv 0, tv [], tv [], tv []].toArray 120)
                have MK := fun u (hu : Grows wr u) => make_r lvi S u _ (.wr p d) (hl.later hu) (by omega)
                change ∀ u, Grows wr u → Calls _ _ #[lvi, .agg #[rv 0, tv p, tv [], tv d]] u _ at MK
                go_wp2_with (refine wpList_storeT rfl 120 (.tmp 8) (.tmp 40) rfl wr.heap.size _ [rv 0, tv p, tv [], tv d] 4 rfl rfl hcb rfl rfl c_size hone ?_; intro w5 b5 t5; have G5 := turns_grow gal t5 (Nat.le_refl _); have p0 := b5.cell (k := 0) rfl; have p1 := b5.cell (k := 1) rfl; have p2 := b5.cell (k := 2) rfl; have p3 := b5.cell (k := 3) rfl; have p2B := (hb.later G5).cell (k := 2) rfl; have ca5 : w5.cell? ⟨ad.block, ad.off + (q + 1), none⟩ = some (.bool true) := cell_at_r (hcell_later ca2 G5))
                refine (MK _ G5).mono ?_
                rintro e w7 ⟨lv', rfl, hl7, g7⟩
                obtain ⟨A7, c7, rfl⟩ := hl7.form
                have G7 := Grows.trans G5 g7
                have hb7 := hb.later G7
                have hf7 := hb7.free 2
                have q7 := hb7.cell (k := 2) rfl
                have hb8 := hb7.set_ (k := 2) (by simp) (.slice A7 (mkF S (.wr p d)).length c7)
                have t8 := Turns.of_set (S := fun i => i = B) (b := B) (o := 2) w7 (.slice A7 (mkF S (.wr p d)).length c7) rfl
                have hz8 := (hz.later G7).turned t8 (by have := HBE.out; omega)
                have hwsz := G.size
                have hblt := hb.lt
                have hzlt := hz.lt
                have h5s := G5.size
                have hl8 := (hl7.turned t8 (fun i hi e => by have := HBE.out; rcases hi with (hi | hi) | hi <;> omega)).mono (ok' := fun k => (ok k ∧ k < B) ∨ E < k) (fun i hi => by
                  rcases hi with hi | hi
                  · exact hi
                  · exact .inr (by omega))
                have G8 : Grows w (w7.setCell ⟨B, 2, none⟩ (.slice A7 (mkF S (.wr p d)).length c7)) := ((Turns.of_grows (S := fun i => B ≤ i) (Grows.trans G G7)).trans (t8.mono fun i _ e => by omega)).grows (fun i hi => by omega)
                have hml := mk_len S (.wr p d)
                go_wp2_with fail
                go_roundw
                case rel => exact ⟨k + 1, q + 2, mkF S (.wr p d), _, by omega, by go_num, by go_num, by omega, by omega, HR2.out, hb8, hz8, hl8, G8⟩
                case measure => simp [intOf]; omega
          | rn p pq =>
            rw [rst_rn hbit, htl] at hr
            have HR2 := Lib.hid hr
            clear hr hbit HR hx htl hkb
            clear hcx
            have x0 : wr.cell? ⟨gw, k * 4, none⟩ = some (rv 1) := hrg 0 _ rfl
            have x1 : wr.cell? ⟨gw, k * 4 + 1, none⟩ = some (tv p) := hrg 1 _ rfl
            have x2 : wr.cell? ⟨gw, k * 4 + 2, none⟩ = some (tv pq) := hrg 2 _ rfl
            have x3 : wr.cell? ⟨gw, k * 4 + 3, none⟩ = some (tv []) := hrg 3 _ rfl
            have hcb := Has.new wr 120 [rv 0, tv [], tv [], tv []]
            have hone : ∀ u ∈ [rv 1, tv p, tv pq, tv []], u.oneCell' = true := by intro u hu; simp at hu; rcases hu with rfl | rfl | rfl | rfl <;> rfl
            have gal := grows_alloc wr (.cells [rv 0, tv [], tv [], tv []].toArray 120)
            have MK := fun u (hu : Grows wr u) => make_r lvi S u _ (.rn p pq) (hl.later hu) (by omega)
            change ∀ u, Grows wr u → Calls _ _ #[lvi, .agg #[rv 1, tv p, tv pq, tv []]] u _ at MK
            go_wp2_with (refine wpList_storeT rfl 120 (.tmp 8) (.tmp 40) rfl wr.heap.size _ [rv 1, tv p, tv pq, tv []] 4 rfl rfl hcb rfl rfl c_size hone ?_; intro w5 b5 t5; have G5 := turns_grow gal t5 (Nat.le_refl _); have p0 := b5.cell (k := 0) rfl; have p1 := b5.cell (k := 1) rfl; have p2 := b5.cell (k := 2) rfl; have p3 := b5.cell (k := 3) rfl; have p2B := (hb.later G5).cell (k := 2) rfl)
            refine (MK _ G5).mono ?_
            rintro e w7 ⟨lv', rfl, hl7, g7⟩
            obtain ⟨A7, c7, rfl⟩ := hl7.form
            have G7 := Grows.trans G5 g7
            have hb7 := hb.later G7
            have hf7 := hb7.free 2
            have q7 := hb7.cell (k := 2) rfl
            have hb8 := hb7.set_ (k := 2) (by simp) (.slice A7 (mkF S (.rn p pq)).length c7)
            have t8 := Turns.of_set (S := fun i => i = B) (b := B) (o := 2) w7 (.slice A7 (mkF S (.rn p pq)).length c7) rfl
            have hz8 := (hz.later G7).turned t8 (by have := HBE.out; omega)
            have hwsz := G.size
            have hblt := hb.lt
            have hzlt := hz.lt
            have h5s := G5.size
            have hl8 := (hl7.turned t8 (fun i hi e => by have := HBE.out; rcases hi with (hi | hi) | hi <;> omega)).mono (ok' := fun k => (ok k ∧ k < B) ∨ E < k) (fun i hi => by
              rcases hi with hi | hi
              · exact hi
              · exact .inr (by omega))
            have G8 : Grows w (w7.setCell ⟨B, 2, none⟩ (.slice A7 (mkF S (.rn p pq)).length c7)) := ((Turns.of_grows (S := fun i => B ≤ i) (Grows.trans G G7)).trans (t8.mono fun i _ e => by omega)).grows (fun i hi => by omega)
            have hml := mk_len S (.rn p pq)
            go_wp2_with fail
            go_roundw
            case rel => exact ⟨k + 1, q + 1, mkF S (.rn p pq), _, by omega, by go_num, by go_num, by omega, by omega, HR2.out, hb8, hz8, hl8, G8⟩
            case measure => simp [intOf]; omega
          | rm p =>
            rw [rst_rm hbit, htl] at hr
            have HR2 := Lib.hid hr
            clear hr hbit HR hx htl hkb
            clear hcx
            have x0 : wr.cell? ⟨gw, k * 4, none⟩ = some (rv 2) := hrg 0 _ rfl
            have x1 : wr.cell? ⟨gw, k * 4 + 1, none⟩ = some (tv p) := hrg 1 _ rfl
            have x2 : wr.cell? ⟨gw, k * 4 + 2, none⟩ = some (tv []) := hrg 2 _ rfl
            have x3 : wr.cell? ⟨gw, k * 4 + 3, none⟩ = some (tv []) := hrg 3 _ rfl
            have hcb := Has.new wr 120 [rv 0, tv [], tv [], tv []]
            have hone : ∀ u ∈ [rv 2, tv p, tv [], tv []], u.oneCell' = true := by intro u hu; simp at hu; rcases hu with rfl | rfl | rfl | rfl <;> rfl
            have gal := grows_alloc wr (.cells [rv 0, tv [], tv [], tv []].toArray 120)
            have MK := fun u (hu : Grows wr u) => make_r lvi S u _ (.rm p) (hl.later hu) (by omega)
            change ∀ u, Grows wr u → Calls _ _ #[lvi, .agg #[rv 2, tv p, tv [], tv []]] u _ at MK
            go_wp2_with (refine wpList_storeT rfl 120 (.tmp 8) (.tmp 40) rfl wr.heap.size _ [rv 2, tv p, tv [], tv []] 4 rfl rfl hcb rfl rfl c_size hone ?_; intro w5 b5 t5; have G5 := turns_grow gal t5 (Nat.le_refl _); have p0 := b5.cell (k := 0) rfl; have p1 := b5.cell (k := 1) rfl; have p2 := b5.cell (k := 2) rfl; have p3 := b5.cell (k := 3) rfl; have p2B := (hb.later G5).cell (k := 2) rfl)
            refine (MK _ G5).mono ?_
            rintro e w7 ⟨lv', rfl, hl7, g7⟩
            obtain ⟨A7, c7, rfl⟩ := hl7.form
            have G7 := Grows.trans G5 g7
            have hb7 := hb.later G7
            have hf7 := hb7.free 2
            have q7 := hb7.cell (k := 2) rfl
            have hb8 := hb7.set_ (k := 2) (by simp) (.slice A7 (mkF S (.rm p)).length c7)
            have t8 := Turns.of_set (S := fun i => i = B) (b := B) (o := 2) w7 (.slice A7 (mkF S (.rm p)).length c7) rfl
            have hz8 := (hz.later G7).turned t8 (by have := HBE.out; omega)
            have hwsz := G.size
            have hblt := hb.lt
            have hzlt := hz.lt
            have h5s := G5.size
            have hl8 := (hl7.turned t8 (fun i hi e => by have := HBE.out; rcases hi with (hi | hi) | hi <;> omega)).mono (ok' := fun k => (ok k ∧ k < B) ∨ E < k) (fun i hi => by
              rcases hi with hi | hi
              · exact hi
              · exact .inr (by omega))
            have G8 : Grows w (w7.setCell ⟨B, 2, none⟩ (.slice A7 (mkF S (.rm p)).length c7)) := ((Turns.of_grows (S := fun i => B ≤ i) (Grows.trans G G7)).trans (t8.mono fun i _ e => by omega)).grows (fun i hi => by omega)
            have hml := mk_len S (.rm p)
            go_wp2_with fail
            go_roundw
            case rel => exact ⟨k + 1, q + 1, mkF S (.rm p), _, by omega, by go_num, by go_num, by omega, by omega, HR2.out, hb8, hz8, hl8, G8⟩
            case measure => simp [intOf]; omega
    · obtain rfl : k = m := by omega
      have hr := HR.out
      rw [HM.out, List.drop_length] at hr
      change rstF D.waits ks D.lasts = S at hr
      have HR2 := Lib.hid hr
      obtain ⟨A9, c9, rfl⟩ := hl.form
      have hBE := HBE.out
      have s0f := hb.free 1
      have s0h : Has (wr.setCell ⟨B, 1, none⟩ (.slice A9 S.length c9)) B [rv D.room, .slice A9 S.length c9, .slice A9 S.length c9, .slice Aw k cw, rv D.power] := hb.set_ (k := 1) (by simp) (.slice A9 S.length c9)
      have s0t := Turns.of_set (S := fun q => q = B) (b := B) (o := 1) wr (.slice A9 S.length c9) rfl
      have s0c0 := s0h.cell (k := 0) rfl
      have s0c1 := s0h.cell (k := 1) rfl
      have s0c2 := s0h.cell (k := 2) rfl
      have s0c3 := s0h.cell (k := 3) rfl
      have s0c4 := s0h.cell (k := 4) rfl
      have s1f := s0h.free 3
      have s1h : Has ((wr.setCell ⟨B, 1, none⟩ (.slice A9 S.length c9)).setCell ⟨B, 3, none⟩ (.slice none 0 0)) B [rv D.room, .slice A9 S.length c9, .slice A9 S.length c9, .slice none 0 0, rv D.power] := s0h.set_ (k := 3) (by simp) (.slice none 0 0)
      have s1t := Turns.of_set (S := fun q => q = B) (b := B) (o := 3) (wr.setCell ⟨B, 1, none⟩ (.slice A9 S.length c9)) (.slice none 0 0) rfl
      have s1c0 := s1h.cell (k := 0) rfl
      have s1c1 := s1h.cell (k := 1) rfl
      have s1c2 := s1h.cell (k := 2) rfl
      have s1c3 := s1h.cell (k := 3) rfl
      have s1c4 := s1h.cell (k := 4) rfl
      have s2f := s1h.free 4
      have s2h : Has (((wr.setCell ⟨B, 1, none⟩ (.slice A9 S.length c9)).setCell ⟨B, 3, none⟩ (.slice none 0 0)).setCell ⟨B, 4, none⟩ (rv (-1))) B [rv D.room, .slice A9 S.length c9, .slice A9 S.length c9, .slice none 0 0, rv (-1)] := s1h.set_ (k := 4) (by simp) (rv (-1))
      have s2t := Turns.of_set (S := fun q => q = B) (b := B) (o := 4) ((wr.setCell ⟨B, 1, none⟩ (.slice A9 S.length c9)).setCell ⟨B, 3, none⟩ (.slice none 0 0)) (rv (-1)) rfl
      have s2c0 := s2h.cell (k := 0) rfl
      have s2c1 := s2h.cell (k := 1) rfl
      have s2c2 := s2h.cell (k := 2) rfl
      have s2c3 := s2h.cell (k := 3) rfl
      have s2c4 := s2h.cell (k := 4) rfl
      have TT := (s0t.trans s1t).trans s2t
      have hz9 := hz.turned TT (by omega)
      have hz0 := hb.free 1
      have hD2 : ∀ u ∈ [rv D.room, .slice A9 S.length c9, .slice A9 S.length c9, .slice none 0 0, rv (-1)], u.oneCell' = true := fun u hu => by
        simp at hu
        rcases hu with rfl | rfl | rfl | rfl <;> rfl
      clear hr HR hBE
      go_wp2_with (refine wpList_storeT rfl 39 (.tmp 4) (.tmp 81) rfl E _ [rv D.room, .slice A9 S.length c9, .slice A9 S.length c9, .slice none 0 0, rv (-1)] 5 rfl rfl hz9 rfl rfl d_size hD2 ?_; intro w9 b9 t9)
      (try simp only [Exit.inBlock, Exit.then])
      refine bodyPost_ret (res_has (vs := [rv D.room, .slice A9 S.length c9, .slice A9 S.length c9, .slice none 0 0, rv (-1)]) rfl _ rfl Tryz.underlying39 rfl d_size b9) rfl ?_
      have hBE := HBE.out
      have hf : FsV w9 (Nw w ok) (.slice A9 S.length c9) S := ((hl.turned TT (fun i hi e => by rcases hi with hi | hi <;> omega)).turned t9 (fun i hi e => by rcases hi with hi | hi <;> omega)).mono fun i hi => by
        rcases hi with hi | hi
        · exact .inl hi.1
        · exact .inr (by omega)
      have hrs : restartD D ks = { D with seen := S, lasts := S, waits := [], power := -1 } := by unfold restartD; rw [HR2.out]
      rw [hrs]
      refine ⟨.slice A9 S.length c9, rfl, ⟨hf, hf, CsV.nil _ _⟩, ?_⟩
      exact (((Turns.of_grows (S := fun i => B ≤ i) G).trans (TT.mono fun i _ e => by omega)).trans (t9.mono fun i _ e => by omega)).grows (fun i hi => by omega)
end Go.Proofs.YtbcldknecdbemaaGreatDoor

/-
  A slice of records that came in (of no program): each record's cells, and what each field is: an int, a text, bytes, bools (OpR with bools: import one of the two).
-/
namespace Go.Proofs.YtbcldknecdbemaaGreatDoor
open Go.RowKit
open Go.ChangeShapes Go.WideShapes
set_option linter.unusedVariables false
set_option maxRecDepth 20000

section
variable {H : Type} {enc : TypeId × Value → H} {P : Program} {w : World} {base : Nat} {spare : Nat → Bool} {held : Bool}

/-- Bools that came in. -/
theorem bools_is {t e : TypeId} {n : Nat} {v : Value} {y : DataW H × List MemPlace} (hs : P.underlying t = some (.slice e)) (he : P.underlying e = some .bool) (hc : P.cellsOf e = 1) (h : DataW.trod enc P w base spare held n t [v] = some y) :
    ∃ (A : Option Addr) (n c : Nat) (bs : List Bool), v = .slice A n c ∧ bs.length = n ∧ n ≤ c ∧ c ≤ maxLen ∧ Lies w w.heap.size A (bs.map .bool) := by
  rcases Go.Deep.open_slice1 hs hc h with ⟨hcs, _⟩ | ⟨a, len, cap, m, k, V, D, Pl, hcs, hb, hl, hm, hmm, _, hx⟩
  · simp at hcs
    exact ⟨none, 0, 0, [], hcs, rfl, Nat.le_refl _, Nat.zero_le _, Lies.empty⟩
  · simp at hcs
    have hlm : len ≤ m := by rw [hmm]; split <;> omega
    have each : ∀ i, i < m → ∃ b : Bool, V i = .bool b := fun i hi => by
      obtain ⟨b, h1, _⟩ := DataW.trod_bool he (hx i hi).2
      exact ⟨b, by simpa using h1⟩
    obtain ⟨R, hR⟩ := Go.Deep.choose_lt each
    refine ⟨some a, len, cap, (List.range len).map R, hcs, by simp, hl, hm, fun j u hu => ?_⟩
    rw [List.map_map, List.getElem?_map] at hu
    by_cases hj : j < len
    · rw [List.getElem?_range hj] at hu
      simp at hu
      have hcell := (hx j (by omega)).1
      rw [hR j (by omega), hu] at hcell
      refine ⟨a, rfl, ?_, hcell⟩
      have := World.block_lt_of_cell? w _ hcell
      rwa [add_block] at this
    · rw [List.getElem?_eq_none (by simp; omega)] at hu
      simp at hu
/-- What a field's value is, by its type. -/
def FieldIs (P : Program) (w : World) (t : TypeId) (v : Value) : Prop :=
  (∀ k, P.underlying t = some (.int k) → ∃ n, v = .int k n ∧ (Lit.int k n).wf = true) ∧
  (P.underlying t = some .string → ∃ s : ByteArray, v = .string s ∧ s.size ≤ maxLen) ∧
  (∀ e, P.underlying t = some (.slice e) → P.underlying e = some (.int .u8) → P.cellsOf e = 1 → ∃ (A : Option Addr) (n c : Nat) (bs : List UInt8), v = .slice A n c ∧ bs.length = n ∧ n ≤ c ∧ c ≤ maxLen ∧ Lies w w.heap.size A (bs.map bv)) ∧
  (∀ e, P.underlying t = some (.slice e) → P.underlying e = some .bool → P.cellsOf e = 1 → ∃ (A : Option Addr) (n c : Nat) (bs : List Bool), v = .slice A n c ∧ bs.length = n ∧ n ≤ c ∧ c ≤ maxLen ∧ Lies w w.heap.size A (bs.map .bool))
theorem field_is {t : TypeId} {n : Nat} {v : Value} {y : DataW H × List MemPlace} (h : DataW.trod enc P w base spare held n t [v] = some y) : FieldIs P w t v := by
  refine ⟨fun k hk => ?_, fun hs => ?_, fun e hs he hc => ?_, fun e hs he hc => bools_is hs he hc h⟩
  · obtain ⟨m, h1, _, h2⟩ := DataW.trod_int hk h
    exact ⟨m, by simpa using h1, h2⟩
  · obtain ⟨s, h1, _, h2⟩ := DataW.trod_string hs h
    exact ⟨s, by simpa using h1, h2⟩
  · rcases open_ints hs he hc h with ⟨hcs, _⟩ | ⟨a, l, c, zs, hcs, _, hl, hm, hz, _, hcell, hwz⟩
    · simp at hcs
      exact ⟨none, 0, 0, [], hcs, rfl, Nat.le_refl _, Nat.zero_le _, Lies.empty⟩
    · simp at hcs
      -- the first so many of what is read
      refine ⟨some a, l, c, (zs.take l).map fun z => UInt8.ofNat z.toNat, hcs, by simp; split at hz <;> omega, hl, hm, fun j u hu => ?_⟩
      rw [List.map_map, List.getElem?_map, List.getElem?_take] at hu
      split at hu
      · rename_i hj
        have hjz : j < zs.length := by split at hz <;> omega
        rw [List.getElem?_eq_getElem hjz] at hu
        simp at hu
        have h1 := hcell j hjz
        have h2 := hwz _ (List.getElem_mem hjz)
        have h3 : 0 ≤ zs[j] ∧ zs[j] ≤ 255 := by simp [Lit.wf, IntKind.min, IntKind.max, IntKind.signed, IntKind.bits] at h2; omega
        refine ⟨a, rfl, ?_, ?_⟩
        · have := World.block_lt_of_cell? w _ h1
          rwa [add_block] at this
        · rw [h1, ← hu]
          simp [List.getElem?_eq_getElem hjz]
          omega
      · simp at hu

/-- The records of a slice. -/
theorem open_recs {t e : TypeId} {fs : Array Field} {fuel : Nat} {cs : List Value} {x : DataW H × List MemPlace} (ht : P.underlying t = some (.slice e)) (he : P.underlying e = some (.struct fs))
    (hone : Go.Deep.oneCellFields P fs = true) (ce : P.cellsOf e = fs.size) (hpos : 0 < fs.size) (h : DataW.trod enc P w base spare held fuel t cs = some x) :
    (cs = [.slice none 0 0]) ∨ ∃ (A : Option Addr) (len cap : Nat) (rs : List (List Value)), cs = [.slice A len cap] ∧ rs.length = len ∧ len ≤ cap ∧ cap ≤ maxLen ∧ Recs w A fs.size rs ∧
      ∀ r ∈ rs, ∀ (j : Nat) (f : Field), fs[j]? = some f → ∃ v, r[j]? = some v ∧ FieldIs P w f.type v := by
  rcases Go.Deep.open_slice ht h with ⟨h0, _⟩ | ⟨a, len, cap, m, n, D, Pl, rfl, hb, hl, hm, hmm, _, hx⟩
  · exact .inl h0
  right
  have hlm : len ≤ m := by rw [hmm]; split <;> omega
  have each : ∀ i, i < len → ∃ r : List Value, r.length = fs.size ∧ (∀ j u, r[j]? = some u → w.cell? (a.add (i * fs.size + j)) = some u) ∧ ∀ (j : Nat) (f : Field), fs[j]? = some f → ∃ v, r[j]? = some v ∧ FieldIs P w f.type v := fun i hi => by
    obtain ⟨cs', h1, h2⟩ := hx i (by omega)
    rw [ce] at h1
    obtain ⟨_, hlen, hcell⟩ := World.cells?_some h1
    obtain ⟨xs, k, _, _, _, hxl, hf⟩ := DataW.trod_struct he h2
    refine ⟨cs', hlen, fun j u hu => ?_, fun j f hj => ?_⟩
    · have hj : j < fs.size := by rw [← hlen]; exact (List.getElem?_eq_some_iff.1 hu).1
      have := hcell j hj
      rw [add_add_addr] at this
      rw [this, hu]
    · have hlt : j < fs.size := (Array.getElem?_eq_some_iff.1 hj).1
      obtain ⟨ho, hc1⟩ := Go.Deep.hone_of hone j f hj
      have g := hf j f hj
      rw [ho, hc1, Go.Deep.take1_drop cs' j undef (by omega), List.getElem?_eq_getElem (by omega)] at g
      refine ⟨cs'.getD j undef, ?_, field_is g⟩
      rw [List.getD_eq_getElem?_getD, List.getElem?_eq_getElem (show j < cs'.length by omega)]; rfl
  obtain ⟨R, hR⟩ := Go.Deep.choose_lt each
  refine ⟨some a, len, cap, (List.range len).map R, rfl, by simp, hl, hm, ⟨fun r hr => ?_, fun q u hu => ?_⟩, fun r hr => ?_⟩
  · obtain ⟨i, hi, rfl⟩ := List.mem_map.1 hr
    exact (hR i (List.mem_range.1 hi)).1
  · -- a cell of the flat row: of which record, and where
    have hlenR : ∀ r ∈ (List.range len).map R, r.length = fs.size := fun r hr => by
      obtain ⟨i, hi, rfl⟩ := List.mem_map.1 hr
      exact (hR i (List.mem_range.1 hi)).1
    have hq : q < len * fs.size := by
      have := (List.getElem?_eq_some_iff.1 hu).1
      rw [flat_len hlenR] at this
      simpa using this
    have hi : q / fs.size < len := Nat.div_lt_of_lt_mul (by rw [Nat.mul_comm]; exact hq)
    have hj : q % fs.size < fs.size := Nat.mod_lt _ hpos
    obtain ⟨g1, g2, _⟩ := hR (q / fs.size) hi
    obtain ⟨v, hv⟩ : ∃ v, (R (q / fs.size))[q % fs.size]? = some v := ⟨_, List.getElem?_eq_getElem (by omega)⟩
    have hfl := flat_at (rs := (List.range len).map R) (i := q / fs.size) (j := q % fs.size) hlenR (by rw [List.getElem?_map, List.getElem?_range hi]; rfl) hv
    have hqq : q / fs.size * fs.size + q % fs.size = q := by rw [Nat.mul_comm]; exact Nat.div_add_mod q fs.size
    rw [hqq, hu] at hfl
    injection hfl with hfl
    subst hfl
    have hc := g2 _ _ hv
    rw [hqq] at hc
    refine ⟨a, rfl, ?_, hc⟩
    have := World.block_lt_of_cell? w _ hc
    rwa [add_block] at this
  · obtain ⟨i, hi, rfl⟩ := List.mem_map.1 hr
    exact (hR i (List.mem_range.1 hi)).2.2
end
end Go.Proofs.YtbcldknecdbemaaGreatDoor

/-
  The reference's NameOf; a deed that came in.
-/
namespace Go.Proofs.YtbcldknecdbemaaGreatDoor
open Go.RowKit
set_option linter.unusedVariables false
set_option maxRecDepth 20000

def nameL12 : List Byts := [[97], [98], [99, 47, 49], [99, 47, 50], [100], [99], [97], [98], [], [120, 0]]
def name12 (z : Int) : Byts := nameL12.getD (around z 10) []
theorem name12_mem (z : Int) : name12 z ∈ nameL12 := by
  have h : around z 10 < nameL12.length := around_lt z (by omega)
  unfold name12
  rw [List.getD_eq_getElem?_getD, List.getElem?_eq_getElem h]
  exact List.getElem_mem h
theorem name12_len (z : Int) : (name12 z).length ≤ 3 := by
  have : ∀ x ∈ nameL12, x.length ≤ 3 := by decide
  exact this _ (name12_mem z)
/-- A deed. -/
structure Deed where
  what : Int
  p : Int
  to : Int
  n : Int
  b : Byts
  keep : List Bool
def I64' (z : Int) : Prop := -9223372036854775808 ≤ z ∧ z ≤ 9223372036854775807
structure Deed.At (w : World) (r : List Value) (o : Deed) : Prop where
  cells : ∃ (A : Option Addr) (c : Nat) (A' : Option Addr) (c' : Nat), r = [rv o.what, rv o.p, rv o.to, rv o.n, .slice A o.b.length c, .slice A' o.keep.length c'] ∧ o.b.length ≤ c ∧ c ≤ maxLen ∧ Lies w w.heap.size A (o.b.map bv) ∧ o.keep.length ≤ c' ∧ c' ≤ maxLen ∧ Lies w w.heap.size A' (o.keep.map .bool)
  what : I64' o.what
  p : I64' o.p
  to : I64' o.to
  n : I64' o.n
def DeedO (w : World) (r : List Value) : Prop := ∃ o, Deed.At w r o
theorem i64_of {z : Int} (hz : (Lit.int .i64 z).wf = true) : I64' z := by
  simp [Lit.wf, IntKind.min, IntKind.max, IntKind.signed, IntKind.bits] at hz
  exact ⟨by omega, by omega⟩
end Go.Proofs.YtbcldknecdbemaaGreatDoor
