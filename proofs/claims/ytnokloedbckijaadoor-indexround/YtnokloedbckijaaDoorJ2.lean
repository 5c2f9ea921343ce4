/-
  Contracts, joined (CutB CutM CutC CutD Itr CutE CutF Cln CutG CutH).
-/
import Derived.Test.YtnokloedbckijaaDoorJ1
import Derived.RangeFuncNested
import Derived.RangeFuncBound
import Derived.RangeFuncCalls
import Derived.RangeFuncLeaves
import Derived.Shelf.Abstract
import Derived.Shelf.RegionOpen
import Derived.WalkKit
import Derived.OwnWalkIn
import Derived.TacticsInMore
import Derived.LoopNIn
import Derived.LoopIn
import Derived.Maps.OwnIn

/-
  Contracts of roll.New, (*Roll).Add, (*Roll).Reset over a roll that lies in a block. Condition: the table starts holds the words from which sixteen each are made.
-/
namespace Go.Proofs.YtnokloedbckijaaDoor
open Go.RowKit
set_option linter.unusedVariables false
set_option maxRecDepth 20000

/-- A roll's cells in block b: the ring r, where the next byte goes, how many there are, the hash. -/
structure Ri (w : World) (b : Nat) (r : List UInt8) (x s h : Nat) : Prop where
  has : Has w b (r.map bv ++ [.int .i64 (x : Int), .int .i64 (s : Int), uv h])
  len : r.length = 16
section
variable {w w' : World} {b x s h : Nat} {r : List UInt8}
theorem Ri.cx (R : Ri w b r x s h) : w.cell? ⟨b, 16, none⟩ = some (.int .i64 (x : Int)) := R.has.cell (by rw [List.getElem?_append_right (by simp [R.len])]; simp [R.len])
theorem Ri.cs (R : Ri w b r x s h) : w.cell? ⟨b, 17, none⟩ = some (.int .i64 (s : Int)) := R.has.cell (by rw [List.getElem?_append_right (by simp [R.len])]; simp [R.len])
theorem Ri.ch (R : Ri w b r x s h) : w.cell? ⟨b, 18, none⟩ = some (.int .u32 (h : Int)) := R.has.cell (by rw [List.getElem?_append_right (by simp [R.len])]; simp [R.len])
theorem Ri.cb (R : Ri w b r x s h) {k : Nat} {d : UInt8} (hd : r[k]? = some d) : w.cell? ⟨b, k, none⟩ = some (.int .u8 (d.toNat : Int)) := R.has.cell (by
  have := (List.getElem?_eq_some_iff.1 hd).1
  rw [List.getElem?_append_left (by simpa using this), List.getElem?_map, hd]; rfl)
theorem Ri.setX (R : Ri w b r x s h) (y : Nat) : Ri (w.setCell ⟨b, 16, none⟩ (.int .i64 (y : Int))) b r y s h := by
  refine ⟨?_, R.len⟩
  have := R.has.set_ (k := 16) (by simp [R.len]) (.int .i64 (y : Int))
  rwa [List.set_append_right _ _ (by simp [R.len]), List.length_map, R.len] at this
theorem Ri.setS (R : Ri w b r x s h) (y : Nat) : Ri (w.setCell ⟨b, 17, none⟩ (.int .i64 (y : Int))) b r x y h := by
  refine ⟨?_, R.len⟩
  have := R.has.set_ (k := 17) (by simp [R.len]) (.int .i64 (y : Int))
  rwa [List.set_append_right _ _ (by simp [R.len]), List.length_map, R.len] at this
theorem Ri.setH (R : Ri w b r x s h) (y : Nat) : Ri (w.setCell ⟨b, 18, none⟩ (.int .u32 (y : Int))) b r x s y := by
  refine ⟨?_, R.len⟩
  have := R.has.set_ (k := 18) (by simp [R.len]) (.int .u32 (y : Int))
  rwa [List.set_append_right _ _ (by simp [R.len]), List.length_map, R.len] at this
theorem Ri.setB (R : Ri w b r x s h) (k : Nat) (hk : k < 16) (c : UInt8) : Ri (w.setCell ⟨b, k, none⟩ (.int .u8 (c.toNat : Int))) b (r.set k c) x s h := by
  refine ⟨?_, by rw [List.length_set]; exact R.len⟩
  have := R.has.set_ (k := k) (by simp [R.len]; omega) (.int .u8 (c.toNat : Int))
  rwa [List.set_append_left _ _ (by simp [R.len]; omega), show (.int .u8 (c.toNat : Int) : Value) = bv c from rfl, ← List.map_set] at this
theorem Ri.later (R : Ri w b r x s h) (hg : Grows w w') : Ri w' b r x s h := ⟨R.has.later hg, R.len⟩
theorem Ri.turned {S : Nat → Prop} (R : Ri w b r x s h) (ht : Turns S w w') (hn : ¬ S b) : Ri w' b r x s h := ⟨R.has.turned ht hn, R.len⟩
end
/-- The ring holds the last sixteen. -/
def Ring (r l : List UInt8) : Prop := ∀ i, i < l.length → l.length - 16 ≤ i → r[i % 16]? = l[i]?
/-- The roll in block b is that of the bytes l. -/
def Rolls (w : World) (b : Nat) (l : List UInt8) : Prop := ∃ r, Ri w b r (l.length % 16) (min 16 l.length) (hashOf l) ∧ Ring r l
theorem Rolls.later {w w' : World} {b : Nat} {l : List UInt8} (R : Rolls w b l) (hg : Grows w w') : Rolls w' b l := let ⟨r, h, k⟩ := R; ⟨r, h.later hg, k⟩
theorem Rolls.turned {w w' : World} {b : Nat} {l : List UInt8} {S : Nat → Prop} (R : Rolls w b l) (ht : Turns S w w') (hn : ¬ S b) : Rolls w' b l := let ⟨r, h, k⟩ := R; ⟨r, h.turned ht hn, k⟩
theorem Rolls.lt {w : World} {b : Nat} {l : List UInt8} (R : Rolls w b l) : b < w.heap.size := let ⟨_, h, _⟩ := R; h.has.lt
theorem ring_snoc {r l : List UInt8} (h : Ring r l) (hr : r.length = 16) (c : UInt8) : Ring (r.set (l.length % 16) c) (l ++ [c]) := by
  intro i h1 h2
  rw [List.length_append, List.length_singleton] at h1 h2
  rcases Nat.lt_or_ge i l.length with hi | hi
  · rw [List.getElem?_append_left hi, List.getElem?_set_ne (by omega)]
    exact h i hi (by omega)
  · obtain rfl : i = l.length := by omega
    rw [List.getElem?_append_right (Nat.le_refl _), Nat.sub_self, List.getElem?_set_self (by omega)]
    rfl
def zeros16 : List UInt8 := List.replicate 16 0
theorem roll_size : (Tryd.prog.info? 147).map (·.size) = some 19 := by kernel_rfl
def rollCells : List Value := (zeros16.map bv : List Value) ++ [.int .i64 0, .int .i64 0, .int .u32 0]
theorem run_roll_zero (u : World) : (Instr.build 147 #[]).run Tryd.prog u = .ok (.agg rollCells.toArray) u := by kernel_rfl
theorem roll_new {w : World} {b : Nat} (h : Has w b rollCells) : Rolls w b [] := ⟨zeros16, ⟨h, rfl⟩, fun i h => by simp at h⟩

theorem rollnew_any (w : World) :
    Calls Tryd.prog 88 #[] w fun e w' => ∃ b, e = .returned (.pointer (some ⟨b, 0, none⟩)) ∧ w.heap.size ≤ b ∧ Rolls w' b [] ∧ Grows w w' := by
  have hz := fun u => run_roll_zero u
  have hn := roll_new (Has.new w 147 rollCells)
  have hg := grows_alloc w (.cells rollCells.toArray 147)
  go_enter Tryd.func88, Tryd.ntmps88
  go_wp2
  go_ret
  exact ⟨_, rfl, Nat.le_refl _, hn, hg⟩
theorem rollcells_len : rollCells.length = 19 := rfl
theorem rollcells_one : ∀ v ∈ rollCells, v.oneCell' = true := by decide +kernel
theorem rolls_cells {w : World} {b : Nat} {l : List UInt8} (R : Rolls w b l) : ∃ vs, Has w b vs ∧ vs.length = 19 := let ⟨r, h, _⟩ := R; ⟨_, h.has, by simp [h.len]⟩
theorem reset_any (b : Nat) (l : List UInt8) (w : World) (R : Rolls w b l) :
    Calls Tryd.prog 111 #[.pointer (some ⟨b, 0, none⟩)] w fun e w' => e = .returned (.tuple #[]) ∧ Rolls w' b [] ∧ Turns (fun k => k = b) w w' := by
  have hz := fun u => run_roll_zero u
  obtain ⟨vs, hv, hl⟩ := rolls_cells R
  have hn := fun w' (h : Has w' b rollCells) => roll_new h
  have h1 := rollcells_one
  have h2 := rollcells_len
  go_enter Tryd.func111, Tryd.ntmps111
  go_wp2_with (refine wpList_storeT rfl 147 (.tmp 4) (.tmp 3) rfl b vs rollCells 19 rfl rfl hv hl h2 roll_size h1 ?_; intro w1 hw1 ht1)
  go_end0
  exact ⟨rfl, hn _ hw1, ht1⟩

theorem min_next (n : Nat) : min 16 (n + 1) = if n < 16 then n + 1 else 16 := by split <;> omega
set_option maxRecDepth 20000 in
set_option maxHeartbeats 1000000 in
theorem add_any (b : Nat) (l : List UInt8) (c : UInt8) (w : World) (R : Rolls w b l) (hs : Starts w) (hne : b ≠ 0) :
    Calls Tryd.prog 89 #[.pointer (some ⟨b, 0, none⟩), bv c] w fun e w' => e = .returned (uv (hashOf (l ++ [c]))) ∧ Rolls w' b (l ++ [c]) ∧ Turns (fun k => k = b) w w' := by
  obtain ⟨r, Q, hring⟩ := R
  have hr16 := Q.len
  have HRS := Lib.hid (ring_snoc hring hr16 c)
  have hlen : (l ++ [c]).length = l.length + 1 := by simp
  have HLEN := Lib.hid hlen
  have hh := hashOf_lt l
  have HFW : Hid (l.length < 16 → hashOf (l ++ [c]) = rl (hashOf l) ^^^ wordOf c) := fun h => hash_few l c h
  have HGO : Hid (16 ≤ l.length → ∃ d, r[l.length % 16]? = some d ∧ hashOf (l ++ [c]) = (rl (hashOf l) ^^^ wordOf c) ^^^ rln 16 (wordOf d)) := fun h => by
    obtain ⟨d, hd⟩ : ∃ d, l[l.length - 16]? = some d := ⟨_, List.getElem?_eq_getElem (by omega)⟩
    have := hring (l.length - 16) (by omega) (Nat.le_refl _)
    rw [show (l.length - 16) % 16 = l.length % 16 by omega, hd] at this
    exact ⟨d, this, by rw [hash_goes l c d h hd, Nat.xor_assoc, Nat.xor_comm (rln 16 _), ← Nat.xor_assoc]⟩
  have HX : Hid ((l.length + 1) % 16 = (l.length % 16 + 1) % 16) := by show _ = _; omega
  have HMN : Hid (min 16 (l.length + 1) = if l.length < 16 then l.length + 1 else 16) := min_next _
  have hh' := hashOf_lt (l ++ [c])
  clear hring hlen
  unfold Rolls
  have HEQ : Hid (∀ n' h2 : Nat, n' = l.length → h2 = hashOf (l ++ [c]) → ∀ u r x s h, Ri u b r x s h → x = (n' + 1) % 16 → s = min 16 (n' + 1) → h = h2 → Ri u b r ((l ++ [c]).length % 16) (min 16 (l ++ [c]).length) (hashOf (l ++ [c]))) := by
    rintro n' h2 rfl rfl u r x s h hR rfl rfl rfl
    rw [List.length_append, List.length_singleton]; exact hR
  have HFIN : Hid (∀ u r x s h, Ri u b r x s h → x = (l.length + 1) % 16 → s = min 16 (l.length + 1) → h = hashOf (l ++ [c]) → Ri u b r ((l ++ [c]).length % 16) (min 16 (l ++ [c]).length) (hashOf (l ++ [c]))) := HEQ.out _ _ rfl rfl
  have HRET : Hid (∀ h, h = hashOf (l ++ [c]) → uv h = uv (hashOf (l ++ [c]))) := fun h e => by rw [e]
  clear HEQ HLEN
  have F1 := fun u (h : Starts u) => follow_any (hashOf l) c u hh h
  have hy := Nat.xor_lt_two_pow (n := 32) (rl_lt (hashOf l)) (wordOf_lt c)
  generalize rl (hashOf l) ^^^ wordOf c = y at *
  generalize hashOf l = h at *
  have hx16 : l.length % 16 < 16 := Nat.mod_lt _ (by decide)
  generalize l.length % 16 = x at *
  have hx16i : (x : Int) < 16 := by omega
  have hch := Q.ch
  have HQ := Lib.hid Q
  clear Q
  have HS := Lib.hid hs
  have htm : ((x : Int) + 1).tmod 16 = (((x + 1) % 16 : Nat) : Int) := by rw [Int.tmod_eq_emod_of_nonneg (by omega)]; omega
  have htm2 : ((x : Int) + 1) % 16 = (((x + 1) % 16 : Nat) : Int) := by omega
  generalize (x + 1) % 16 = x2 at *
  go_enter Tryd.func89, Tryd.ntmps89
  go_wp2_with fail
  refine (F1 w hs).mono ?_
  rintro e w1 ⟨rfl, hg⟩
  have Q1 := HQ.out.later hg
  have hcs := Q1.cs
  by_cases hlt : l.length < 16
  · have hmin : min 16 l.length = l.length := by omega
    rw [hmin] at hcs Q1
    have hfw := HFW.out hlt
    rw [if_pos hlt] at HMN
    generalize l.length = n at *
    have e1 : ((n : Int) == 16) = false := by simp; omega
    have hfr := Q1.has.free 17
    have Q2 := Q1.setS (n + 1)
    have T2 := (Turns.of_grows (S := fun k => k = b) hg).trans (Turns.of_set (o := 17) w1 (.int .i64 ((n + 1 : Nat) : Int)) rfl)
    rw [show ((n + 1 : Nat) : Int) = (n : Int) + 1 by omega] at Q2 T2
    go_wp2_with fail
    generalize hw2 : w1.setCell ⟨b, 17, none⟩ (.int .i64 ((n : Int) + 1)) = w2 at *
    clear hw2
    refine wp_region_ord 9 [(0, true), (1, true), (2, true), (3, true), (4, true), (5, true), (6, true), (7, true), (8, true)] (by kernel_rfl) (by kernel_rfl) ?_
    have f0 : ∀ u, Grows w2.drew u → u.cell? ⟨b, 16, none⟩ = some (.int .i64 (x : Int)) := fun u h => hcell_later (a := w2.drew) Q2.cx h
    have hO := Grows.refl w2.drew
    repeat (first | (refine ord_take hO _ ?_ (by simp only [List.getElem?_cons_succ, List.getElem?_cons_zero]; rfl) (by rfl) ?_ ?_; rotate_left; (· (intro u hu0 hu; (try go_simp); (try with_reducible rfl))); try simp only [Act.put, List.setIfInBounds_toArray, List.set_cons_zero, List.set_cons_succ]) | (refine ord_skip _ (by simp only [List.getElem?_cons_succ, List.getElem?_cons_zero]; rfl) (by rfl) ?_; try simp only [Act.put, List.setIfInBounds_toArray, List.set_cons_zero, List.set_cons_succ]))
    clear f0 hO
    (refine ord_done (fun u hu => ?_); simp only [List.drop_succ_cons, List.drop_zero])
    have hgu : Grows w2 u := Grows.trans ((Grows.refl w2).drew) hu
    have Q3 := (Q2.later hgu).setB x hx16 c
    have hfr3 := (Q2.later hgu).has.free x
    obtain ⟨dx, hdx⟩ : ∃ d, r[x]? = some d := ⟨_, List.getElem?_eq_getElem (by omega)⟩
    have hc3 := (Q2.later hgu).cb hdx
    have T3 := (T2.trans (Turns.of_grows hgu)).trans (Turns.of_set (o := x) u (.int .u8 (c.toNat : Int)) rfl)
    unfold bv
    generalize hw3 : u.setCell ⟨b, x, none⟩ (.int .u8 (c.toNat : Int)) = w3 at *
    have HW3 := Lib.hid hw3
    clear hw3
    go_wp2_with fail
    refine NoPanic.normal ?_
    change Exit.then _ _ _ _ (u.setCell ⟨b, x, none⟩ (.int .u8 (c.toNat : Int)))
    rw [HW3.out]
    have hx3 := Q3.cx
    have hfx3 := Q3.has.free 16
    have Q4 := Q3.setX x2
    have T4 := T3.trans (Turns.of_set (o := 16) w3 (.int .i64 (x2 : Int)) rfl)
    clear hc3 hfr3 hgu hu T3 T2 Q2 Q1 hfr hcs
    have hh4 := Q4.ch
    have hfh4 := Q4.has.free 18
    have Q5 := Q4.setH y
    have T5 := T4.trans (Turns.of_set (o := 18) _ (.int .u32 ((y : Nat) : Int)) rfl)
    go_wp2_with fail
    go_ret
    exact ⟨congrArg Ending.returned (HRET.out _ hfw.symm), ⟨r.set x c, HFIN.out _ _ _ _ _ Q5 HX.out.symm HMN.out.symm hfw.symm, HRS.out⟩, T5⟩
  · have hmin : min 16 l.length = 16 := by omega
    rw [hmin] at hcs Q1
    obtain ⟨d, hd, hfw⟩ := HGO.out (by omega)
    rw [if_neg hlt] at HMN
    have hcd := Q1.cb hd
    have hz := rln_lt 16 (wordOf_lt d)
    have hxo : bits .xor .u32 (y : Int) ((rln 16 (wordOf d) : Nat) : Int) = ((y ^^^ rln 16 (wordOf d) : Nat) : Int) := u32_xor_nat _ _ hy hz
    have RW : Hid (∀ u, Starts u → Calls Tryd.prog 108 #[.agg #[], bv d] u fun e w' => e = .returned (uv (wordOf d)) ∧ Grows u w') := fun u h => rule_any d u h
    have hd8 : bv d = .int .u8 (d.toNat : Int) := rfl
    rw [hd8] at RW
    have hwl := wordOf_lt d
    have RT : Hid (∀ u, Calls Tryd.prog 110 #[uv (wordOf d), .int .i64 16] u fun e w' => e = .returned (uv (rln 16 (wordOf d))) ∧ Grows u w') := fun u => (rot16_any _ u hwl).mono fun _ _ ⟨he, hw⟩ => ⟨he, by rw [← hw]; exact Grows.refl _⟩
    have hny : y ^^^ rln 16 (wordOf d) < 4294967296 := Nat.xor_lt_two_pow (n := 32) hy hz
    generalize rln 16 (wordOf d) = z at *
    generalize wordOf d = zw at *
    generalize y ^^^ z = y2 at *
    have e1 : (((16 : Nat) : Int) == 16) = true := by simp
    have S1 := HS.out.later hg
    have SD : Hid (∀ u, Grows w1.drew u → Starts u) := fun u h => S1.later (Grows.trans ((Grows.refl w1).drew) h)
    have hcx1 := Q1.cx
    go_wp2_with fail
    refine wp_region_ord 15 [(0, true), (1, true), (2, true), (3, true), (4, true), (5, true), (6, true), (7, true), (8, true), (9, true), (10, true), (11, true), (12, true), (13, true), (14, true)] (by kernel_rfl) (by kernel_rfl) ?_
    have f0 : ∀ u, Grows w1.drew u → u.cell? ⟨b, 16, none⟩ = some (.int .i64 (x : Int)) := fun u h => hcell_later (a := w1.drew) hcx1 h
    have f1 : ∀ u, Grows w1.drew u → u.cell? ⟨b, x, none⟩ = some (.int .u8 (d.toNat : Int)) := fun u h => hcell_later (a := w1.drew) hcd h
    have hO := Grows.refl w1.drew
    repeat (first | (refine ord_take hO _ ?_ (by simp only [List.getElem?_cons_succ, List.getElem?_cons_zero]; rfl) (by rfl) ?_ ?_; rotate_left; (· (intro u hu0 hu; (try go_simp); (try with_reducible rfl))); try simp only [Act.put, List.setIfInBounds_toArray, List.set_cons_zero, List.set_cons_succ]) | (refine ord_skip _ (by simp only [List.getElem?_cons_succ, List.getElem?_cons_zero]; rfl) (by rfl) ?_; try simp only [Act.put, List.setIfInBounds_toArray, List.set_cons_zero, List.set_cons_succ]) | (refine ord_call hO _ ?_ (by simp only [List.getElem?_cons_succ, List.getElem?_cons_zero]; rfl) (by rfl) ?_ ?_; rotate_left; (· (intro u hu0 hu; go_simp; (try refine quiet_enter ?_); (first | with_reducible exact RW.out u (SD.out u hu0) | with_reducible exact RT.out u))); try simp only [Act.put, List.setIfInBounds_toArray, List.set_cons_zero, List.set_cons_succ]))
    clear f0 f1 hO
    refine ord_done (fun w2 hu => ?_); simp only [List.drop_succ_cons, List.drop_zero]
    have hgu : Grows w1 w2 := Grows.trans ((Grows.refl w1).drew) hu
    have Q2 := Q1.later hgu
    have T2 := (Turns.of_grows (S := fun k => k = b) hg).trans (Turns.of_grows hgu)
    clear hu hgu
    go_wp2_with fail
    refine NoPanic.normal ?_
    go_wp2_with fail
    refine wp_region_ord 9 [(0, true), (1, true), (2, true), (3, true), (4, true), (5, true), (6, true), (7, true), (8, true)] (by kernel_rfl) (by kernel_rfl) ?_
    have f0 : ∀ u, Grows w2.drew u → u.cell? ⟨b, 16, none⟩ = some (.int .i64 (x : Int)) := fun u h => hcell_later (a := w2.drew) Q2.cx h
    have hO := Grows.refl w2.drew
    repeat (first | (refine ord_take hO _ ?_ (by simp only [List.getElem?_cons_succ, List.getElem?_cons_zero]; rfl) (by rfl) ?_ ?_; rotate_left; (· (intro u hu0 hu; (try go_simp); (try with_reducible rfl))); try simp only [Act.put, List.setIfInBounds_toArray, List.set_cons_zero, List.set_cons_succ]) | (refine ord_skip _ (by simp only [List.getElem?_cons_succ, List.getElem?_cons_zero]; rfl) (by rfl) ?_; try simp only [Act.put, List.setIfInBounds_toArray, List.set_cons_zero, List.set_cons_succ]))
    clear f0 hO
    (refine ord_done (fun u hu => ?_); simp only [List.drop_succ_cons, List.drop_zero])
    have hgu : Grows w2 u := Grows.trans ((Grows.refl w2).drew) hu
    have Q3 := (Q2.later hgu).setB x hx16 c
    have hfr3 := (Q2.later hgu).has.free x
    obtain ⟨dx, hdx⟩ : ∃ d, r[x]? = some d := ⟨_, List.getElem?_eq_getElem (by omega)⟩
    have hc3 := (Q2.later hgu).cb hdx
    have T3 := (T2.trans (Turns.of_grows hgu)).trans (Turns.of_set (o := x) u (.int .u8 (c.toNat : Int)) rfl)
    unfold bv
    generalize hw3 : u.setCell ⟨b, x, none⟩ (.int .u8 (c.toNat : Int)) = w3 at *
    have HW3 := Lib.hid hw3
    clear hw3
    go_wp2_with fail
    refine NoPanic.normal ?_
    change Exit.then _ _ _ _ (u.setCell ⟨b, x, none⟩ (.int .u8 (c.toNat : Int)))
    rw [HW3.out]
    have hx3 := Q3.cx
    have hfx3 := Q3.has.free 16
    have Q4 := Q3.setX x2
    have T4 := T3.trans (Turns.of_set (o := 16) w3 (.int .i64 (x2 : Int)) rfl)
    clear hc3 hfr3 hgu hu T3 T2 Q2 Q1 hcs
    have hh4 := Q4.ch
    have hfh4 := Q4.has.free 18
    have Q5 := Q4.setH y2
    have T5 := T4.trans (Turns.of_set (o := 18) _ (.int .u32 ((y2 : Nat) : Int)) rfl)
    go_wp2_with fail
    go_ret
    exact ⟨congrArg Ending.returned (HRET.out _ hfw.symm), ⟨r.set x c, HFIN.out _ _ _ _ _ Q5 HX.out.symm HMN.out.symm hfw.symm, HRS.out⟩, T5⟩
end Go.Proofs.YtnokloedbckijaaDoor

/-
  Where bytes are cut, as functions of lists (of no program).
-/
namespace Go.Proofs.YtnokloedbckijaaDoor
set_option linter.unusedVariables false

structure Prm where
  mn : Nat
  av : Nat
  mx : Nat
/-- Parameters that may be. -/
structure Prm.Ok (p : Prm) : Prop where
  mn : 1 ≤ p.mn
  av : p.mn ≤ p.av
  mx : p.av ≤ p.mx
  top : p.mx ≤ 4096
/-- The greatest power of two that is not above n. -/
def powOf (n : Nat) : Nat := 2 ^ Nat.log2 n
theorem powOf_pos (n : Nat) : 0 < powOf n := Nat.two_pow_pos _
theorem powOf_le {n : Nat} (h : 0 < n) : powOf n ≤ n := Nat.log2_self_le (by omega)
/-- Is there a cut behind these bytes? -/
def cutAt (p : Prm) (l : List UInt8) : Bool := l.length == p.mx || (decide (p.mn ≤ l.length) && hashOf l % powOf p.av == 0)
/-- From the bytes pre on, along the others, to the next cut: how many, and whether there is one. -/
def scan (p : Prm) : List UInt8 → List UInt8 → Nat × Bool
  | _, [] => (0, false)
  | pre, c :: r => if cutAt p (pre ++ [c]) then (1, true) else ((scan p (pre ++ [c]) r).1 + 1, (scan p (pre ++ [c]) r).2)
theorem scan_le (p : Prm) : ∀ (b pre : List UInt8), (scan p pre b).1 ≤ b.length
  | [], _ => Nat.le_refl _
  | c :: r, pre => by
    have := scan_le p r (pre ++ [c])
    rw [scan]; split
    · simp
    · simp only [List.length_cons]; omega
theorem scan_pos (p : Prm) {b : List UInt8} (pre : List UInt8) (h : b ≠ []) : 0 < (scan p pre b).1 := by
  cases b with
  | nil => exact absurd rfl h
  | cons c r => rw [scan]; split <;> simp
theorem scan_false (p : Prm) : ∀ (b pre : List UInt8), (scan p pre b).2 = false → (scan p pre b).1 = b.length
  | [], _, _ => rfl
  | c :: r, pre, h => by
    rw [scan] at h ⊢
    split at h
    · cases h
    · rename_i hc
      rw [if_neg hc, List.length_cons, scan_false p r _ h]
theorem scan_false_append (p : Prm) : ∀ (b c pre : List UInt8), (scan p pre b).2 = false → scan p pre (b ++ c) = (b.length + (scan p (pre ++ b) c).1, (scan p (pre ++ b) c).2)
  | [], c, pre, _ => by simp
  | x :: r, c, pre, h => by
    rw [scan] at h
    split at h
    · cases h
    · rename_i hc
      rw [List.cons_append, scan, if_neg hc, scan_false_append p r c _ h]
      simp only [List.append_assoc, List.singleton_append, List.length_cons]
      rw [show r.length + (scan p (pre ++ x :: r) c).1 + 1 = r.length + 1 + (scan p (pre ++ x :: r) c).1 by omega]
theorem scan_true_append (p : Prm) : ∀ (b c pre : List UInt8), (scan p pre b).2 = true → scan p pre (b ++ c) = scan p pre b
  | [], _, _, h => by cases h
  | x :: r, c, pre, h => by
    rw [scan] at h
    rw [List.cons_append, scan, scan]
    split
    · rfl
    · rename_i hc
      rw [if_neg hc] at h
      rw [scan_true_append p r c _ h]
/-- Where the first cut is. -/
theorem scan_find (p : Prm) : ∀ (b pre : List UInt8) (k : Nat), 1 ≤ k → k ≤ b.length → (∀ j, 1 ≤ j → j < k → cutAt p (pre ++ b.take j) = false) → cutAt p (pre ++ b.take k) = true → scan p pre b = (k, true)
  | [], _, k, h1, h2, _, _ => by simp at h2; omega
  | c :: r, pre, k, h1, h2, hno, hc => by
    obtain ⟨j, rfl⟩ : ∃ j, k = j + 1 := ⟨k - 1, by omega⟩
    rw [scan]
    rw [List.take_succ_cons] at hc
    by_cases hj : j = 0
    · subst hj
      rw [List.take_zero] at hc
      rw [if_pos hc]
    · have h0 := hno 1 (Nat.le_refl _) (by omega)
      rw [List.take_succ_cons, List.take_zero] at h0
      rw [if_neg (by rw [h0]; exact Bool.false_ne_true), scan_find p r (pre ++ [c]) j (by omega) (by simpa using h2) (fun i hi hij => ?_) (by rw [List.append_assoc]; exact hc)]
      have := hno (i + 1) (by omega) (by omega)
      rw [List.take_succ_cons] at this
      rw [List.append_assoc]; exact this
theorem scan_none (p : Prm) : ∀ (b pre : List UInt8), (∀ j, 1 ≤ j → j ≤ b.length → cutAt p (pre ++ b.take j) = false) → scan p pre b = (b.length, false)
  | [], _, _ => rfl
  | c :: r, pre, hno => by
    have h0 := hno 1 (Nat.le_refl _) (by simp)
    rw [List.take_succ_cons, List.take_zero] at h0
    rw [scan, if_neg (by rw [h0]; exact Bool.false_ne_true), scan_none p r (pre ++ [c]) (fun i hi hij => ?_)]
    · rfl
    · have := hno (i + 1) (by omega) (by simpa using hij)
      rw [List.take_succ_cons] at this
      rw [List.append_assoc]; exact this
/-- Where the first cut is: no cut is ahead of it. -/
theorem scan_ahead (p : Prm) : ∀ (b pre : List UInt8) (j : Nat), 1 ≤ j → j < (scan p pre b).1 → cutAt p (pre ++ b.take j) = false
  | [], _, j, _, h => by simp [scan] at h
  | c :: r, pre, j, h1, h => by
    rw [scan] at h
    split at h
    · simp at h; omega
    · rename_i hc
      obtain ⟨i, rfl⟩ : ∃ i, j = i + 1 := ⟨j - 1, by omega⟩
      rw [List.take_succ_cons]
      by_cases hi : i = 0
      · subst hi; rw [List.take_zero]; simpa using hc
      · have := scan_ahead p r (pre ++ [c]) i (by omega) (by simpa using h)
        rw [List.append_assoc] at this; exact this
theorem scan_there (p : Prm) : ∀ (b pre : List UInt8), (scan p pre b).2 = true → cutAt p (pre ++ b.take (scan p pre b).1) = true
  | [], _, h => by cases h
  | c :: r, pre, h => by
    rw [scan] at h ⊢
    split
    · rename_i hc; simpa using hc
    · rename_i hc
      rw [if_neg hc] at h
      have := scan_there p r (pre ++ [c]) h
      simp only [List.take_succ_cons]
      rw [List.append_assoc] at this; exact this
/-- A chunk behind which a cut is. -/
def Shut (p : Prm) (c : List UInt8) : Prop := scan p [] c = (c.length, true)
theorem scan_shut (p : Prm) {b : List UInt8} {pre : List UInt8} (h0 : (scan p [] pre).2 = false) (h : (scan p pre b).2 = true) : Shut p (pre ++ b.take (scan p pre b).1) := by
  have hl := scan_le p b pre
  have hp : 1 ≤ (scan p pre b).1 := by
    rcases b with _ | ⟨c, r⟩
    · cases h
    · exact scan_pos p pre (by simp)
  have h2 : scan p pre (b.take (scan p pre b).1) = ((scan p pre b).1, true) := by
    refine scan_find p _ _ _ hp (by simp [hl]) (fun j h1 h2 => ?_) ?_
    · rw [List.take_take, Nat.min_eq_left (by omega)]; exact scan_ahead p b pre j h1 h2
    · rw [List.take_take, Nat.min_self]; exact scan_there p b pre h
  unfold Shut
  rw [scan_false_append p pre _ [] h0, List.nil_append, h2]
  simp [Nat.min_eq_left hl]
theorem Shut.ne {p : Prm} {c : List UInt8} (h : Shut p c) : c ≠ [] := by rintro rfl; cases h

/-- The chunks of bytes. -/
def chunksN (p : Prm) : Nat → List UInt8 → List (List UInt8)
  | 0, _ => []
  | n + 1, b => if b = [] then [] else b.take (scan p [] b).1 :: chunksN p n (b.drop (scan p [] b).1)
def chunksOf (p : Prm) (b : List UInt8) : List (List UInt8) := chunksN p b.length b
theorem chunksN_more (p : Prm) : ∀ (n m : Nat) (b : List UInt8), b.length ≤ n → b.length ≤ m → chunksN p n b = chunksN p m b
  | 0, 0, _, _, _ => rfl
  | 0, m + 1, b, h, _ => by obtain rfl := List.eq_nil_of_length_eq_zero (by omega : b.length = 0); simp [chunksN]
  | n + 1, 0, b, _, h => by obtain rfl := List.eq_nil_of_length_eq_zero (by omega : b.length = 0); simp [chunksN]
  | n + 1, m + 1, b, h1, h2 => by
    rw [chunksN, chunksN]
    split
    · rfl
    · rename_i hb
      have := scan_pos p [] hb
      rw [chunksN_more p n m _ (by rw [List.length_drop]; omega) (by rw [List.length_drop]; omega)]
theorem chunksOf_nil (p : Prm) : chunksOf p [] = [] := rfl
theorem chunksOf_cons (p : Prm) {b : List UInt8} (h : b ≠ []) : chunksOf p b = b.take (scan p [] b).1 :: chunksOf p (b.drop (scan p [] b).1) := by
  have hb : 0 < b.length := List.length_pos_iff.2 h
  have := scan_pos p [] h
  unfold chunksOf
  obtain ⟨n, hn⟩ : ∃ n, b.length = n + 1 := ⟨b.length - 1, by omega⟩
  rw [hn, chunksN, if_neg h, chunksN_more p n _ _ (by rw [List.length_drop]; omega) (Nat.le_refl _)]
theorem chunks_ind (p : Prm) {C : List UInt8 → Prop} (h0 : C []) (h1 : ∀ b, b ≠ [] → C (b.drop (scan p [] b).1) → C b) : ∀ (n : Nat) (b : List UInt8), b.length ≤ n → C b
  | 0, b, h => by obtain rfl := List.eq_nil_of_length_eq_zero (by omega : b.length = 0); exact h0
  | n + 1, b, h => by
    by_cases hb : b = []
    · subst hb; exact h0
    · have := scan_pos p [] hb
      exact h1 b hb (chunks_ind p h0 h1 n _ (by rw [List.length_drop]; omega))
theorem chunks_flat (p : Prm) (b : List UInt8) : (chunksOf p b).flatten = b := by
  refine chunks_ind p (C := fun b => (chunksOf p b).flatten = b) rfl (fun b hb ih => ?_) b.length b (Nat.le_refl _)
  rw [chunksOf_cons p hb, List.flatten_cons, ih, List.take_append_drop]
theorem shut_chunks (p : Prm) {c : List UInt8} (h : Shut p c) (r : List UInt8) : chunksOf p (c ++ r) = c :: chunksOf p r := by
  have h1 : scan p [] (c ++ r) = (c.length, true) := by rw [scan_true_append p c r [] (by rw [h])]; exact h
  rw [chunksOf_cons p (by simp [h.ne]), h1]
  simp
theorem shuts_chunks (p : Prm) : ∀ {l : List (List UInt8)}, (∀ c ∈ l, Shut p c) → ∀ r, chunksOf p (l.flatten ++ r) = l ++ chunksOf p r
  | [], _, r => rfl
  | c :: l, h, r => by
    rw [List.flatten_cons, List.append_assoc, shut_chunks p (h c (by simp)), shuts_chunks p (fun d hd => h d (by simp [hd])) r]; rfl
theorem open_chunks (p : Prm) {b : List UInt8} (h : (scan p [] b).2 = false) : chunksOf p b = if b = [] then [] else [b] := by
  split
  · rename_i hb; subst hb; rfl
  · rename_i hb
    rw [chunksOf_cons p hb, scan_false p b [] h, List.take_length, List.drop_length, chunksOf_nil]
/-- Each chunk but the last one is shut. -/
theorem chunks_shut (p : Prm) (b : List UInt8) : ∀ i c, (chunksOf p b)[i]? = some c → i + 1 < (chunksOf p b).length → Shut p c := by
  refine chunks_ind p (C := fun b => ∀ i c, (chunksOf p b)[i]? = some c → i + 1 < (chunksOf p b).length → Shut p c) (fun i c h => by simp [chunksOf_nil] at h) (fun b hb ih i c h hi => ?_) b.length b (Nat.le_refl _)
  rw [chunksOf_cons p hb] at h hi
  cases i with
  | zero =>
    have hc : b.take (scan p [] b).1 = c := by simpa using h
    have h2 : (scan p [] b).2 = true := by
      cases h3 : (scan p [] b).2 with
      | true => rfl
      | false => rw [scan_false p b [] h3, List.drop_length, chunksOf_nil] at hi; simp at hi
    have := scan_shut p (pre := []) (b := b) rfl h2
    rwa [List.nil_append, hc] at this
  | succ i => exact ih i c (by simpa using h) (by simpa using hi)
theorem chunk_ne (p : Prm) (b : List UInt8) : ∀ c ∈ chunksOf p b, c ≠ [] := by
  refine chunks_ind p (C := fun b => ∀ c ∈ chunksOf p b, c ≠ []) (fun c h => by simp [chunksOf_nil] at h) (fun b hb ih c h => ?_) b.length b (Nat.le_refl _)
  rw [chunksOf_cons p hb] at h
  rcases List.mem_cons.1 h with rfl | h
  · have := scan_pos p [] hb
    intro e
    have hb' := List.length_pos_iff.2 hb
    have := congrArg List.length e
    rw [List.length_take, List.length_nil] at this
    omega
  · exact ih c h
theorem cut_max {p : Prm} {l : List UInt8} (h : l.length = p.mx) : cutAt p l = true := by simp [cutAt, h]
theorem cut_min {p : Prm} (hp : p.Ok) {l : List UInt8} (h : cutAt p l = true) : p.mn ≤ l.length := by
  have := hp.av; have := hp.mx
  simp [cutAt] at h
  omega
theorem cut_few {p : Prm} (hp : p.Ok) {l : List UInt8} (h : l.length < p.mn) : cutAt p l = false := by
  cases hc : cutAt p l with
  | false => rfl
  | true => have := cut_min hp hc; omega
theorem scan_max {p : Prm} (hp : p.Ok) (b : List UInt8) : (scan p [] b).1 ≤ p.mx := by
  have h1 := hp.mn; have h2 := hp.av; have h3 := hp.mx
  rcases Nat.lt_or_ge p.mx (scan p [] b).1 with h | h
  · have h4 := scan_ahead p b [] p.mx (by omega) h
    rw [List.nil_append, cut_max (by rw [List.length_take]; have := scan_le p b []; omega)] at h4
    cases h4
  · exact h
theorem open_max {p : Prm} (hp : p.Ok) {b : List UInt8} (h : (scan p [] b).2 = false) : b.length < p.mx := by
  have h1 := hp.mn; have h2 := hp.av; have h3 := hp.mx
  rcases Nat.lt_or_ge b.length p.mx with h4 | h4
  · exact h4
  · have h5 := scan_false p b [] h
    have h6 := scan_max hp b
    have h7 : cutAt p (b.take b.length) = true := cut_max (by rw [List.length_take]; omega)
    rcases Nat.lt_or_ge 0 b.length with h8 | h8
    · have := scan_find p b [] b.length h8 (Nat.le_refl _) (fun j hj hjl => by have := scan_ahead p b [] j hj (by omega); exact this) h7
      rw [this] at h; cases h
    · omega
theorem chunk_max {p : Prm} (hp : p.Ok) (b : List UInt8) : ∀ c ∈ chunksOf p b, c.length ≤ p.mx := by
  refine chunks_ind p (C := fun b => ∀ c ∈ chunksOf p b, c.length ≤ p.mx) (fun c h => by simp [chunksOf_nil] at h) (fun b hb ih c h => ?_) b.length b (Nat.le_refl _)
  rw [chunksOf_cons p hb] at h
  rcases List.mem_cons.1 h with rfl | h
  · have := scan_max hp b
    rw [List.length_take]; omega
  · exact ih c h
theorem shut_min {p : Prm} (hp : p.Ok) {c : List UInt8} (h : Shut p c) : p.mn ≤ c.length := by
  have := scan_there p c [] (by rw [h])
  rw [h] at this
  have := cut_min hp this
  simpa using this
theorem chunk_min {p : Prm} (hp : p.Ok) (b : List UInt8) (i : Nat) (c : List UInt8) (h : (chunksOf p b)[i]? = some c) (hi : i + 1 < (chunksOf p b).length) : p.mn ≤ c.length := shut_min hp (chunks_shut p b i c h hi)
theorem chunks_len (p : Prm) (b : List UInt8) : (chunksOf p b).length ≤ b.length := by
  have h1 := chunks_flat p b
  have h2 := chunk_ne p b
  generalize chunksOf p b = l at *
  rw [← h1]
  clear h1
  induction l with
  | nil => simp
  | cons c l ih =>
    have := ih fun d hd => h2 d (by simp [hd])
    have hc := List.length_pos_iff.2 (h2 c (by simp))
    simp only [List.length_cons, List.flatten_cons, List.length_append]
    omega
/-- Where the same bytes stand behind a cut, the same chunks do. -/
theorem chunks_again (p : Prm) (a t : List UInt8) (k : Nat) (hk : k + 1 ≤ (chunksOf p a).length) : chunksOf p (((chunksOf p a).take k).flatten ++ t) = (chunksOf p a).take k ++ chunksOf p t := by
  refine shuts_chunks p (fun c hc => ?_) t
  obtain ⟨i, hi⟩ := List.mem_iff_getElem?.1 hc
  have hik : i < k := by have := (List.getElem?_eq_some_iff.1 hi).1; simp at this; omega
  rw [List.getElem?_take_of_lt hik] at hi
  exact chunks_shut p a i c hi (by omega)
/-- What stands at the hash's lowest bits. -/
theorem and_pow (h k : Nat) : (h &&& (2 ^ k - 1)) = h % 2 ^ k := Nat.and_two_pow_sub_one_eq_mod h k
end Go.Proofs.YtnokloedbckijaaDoor

/-
  Contracts of cut.May, bits.Len, cut.Mask, (*knife).lift, cut.newKnife.
-/
namespace Go.Proofs.YtnokloedbckijaaDoor
open Go.RowKit
set_option linter.unusedVariables false
set_option maxRecDepth 20000

/-- Parameters as numbers. -/
def pz (a b c : Int) : Value := .agg #[.int .i64 a, .int .i64 b, .int .i64 c]
def mayZ (a b c : Int) : Bool := decide (1 ≤ a ∧ a ≤ b ∧ b ≤ c ∧ c ≤ 4096)
def pv (p : Prm) : Value := pz p.mn p.av p.mx
theorem may_ok {p : Prm} (h : p.Ok) : mayZ p.mn p.av p.mx = true := by
  have := h.mn; have := h.av; have := h.mx; have := h.top
  simp only [mayZ, decide_eq_true_eq]; omega
set_option maxHeartbeats 400000 in
theorem may_any (a b c : Int) (w : World) :
    Calls Tryd.prog 47 #[pz a b c] w fun e w' => e = .returned (.bool (mayZ a b c)) ∧ Grows w w' := by
  have hga := grows_alloc w (.cells #[.int .i64 a, .int .i64 b, .int .i64 c] 24)
  by_cases h1 : 1 ≤ a
  · by_cases h2 : a ≤ b
    · by_cases h3 : b ≤ c
      · by_cases h4 : c ≤ 4096
        · have hm : mayZ a b c = true := by simp [mayZ, h1, h2, h3, h4]
          rw [hm]
          have d1 : decide (1 ≤ a) = true := by simp [h1]
          have d2 : decide (a ≤ b) = true := by simp [h2]
          have d3 : decide (b ≤ c) = true := by simp [h3]
          have d4 : decide (c ≤ 4096) = true := by simp [h4]
          unfold pz
          go_enter Tryd.func47, Tryd.ntmps47
          go_wp2
          go_ret
          exact ⟨rfl, hga⟩
        · have hm : mayZ a b c = false := by simp [mayZ, h1, h2, h3, h4]
          rw [hm]
          have d1 : decide (1 ≤ a) = true := by simp [h1]
          have d2 : decide (a ≤ b) = true := by simp [h2]
          have d3 : decide (b ≤ c) = true := by simp [h3]
          have d4 : decide (c ≤ 4096) = false := by simp [h4]
          unfold pz
          go_enter Tryd.func47, Tryd.ntmps47
          go_wp2
          go_ret
          exact ⟨rfl, hga⟩
      · have hm : mayZ a b c = false := by simp [mayZ, h1, h2, h3]
        rw [hm]
        have d1 : decide (1 ≤ a) = true := by simp [h1]
        have d2 : decide (a ≤ b) = true := by simp [h2]
        have d3 : decide (b ≤ c) = false := by simp [h3]
        unfold pz
        go_enter Tryd.func47, Tryd.ntmps47
        go_wp2
        go_ret
        exact ⟨rfl, hga⟩
    · have hm : mayZ a b c = false := by simp [mayZ, h1, h2]
      rw [hm]
      have d1 : decide (1 ≤ a) = true := by simp [h1]
      have d2 : decide (a ≤ b) = false := by simp [h2]
      unfold pz
      go_enter Tryd.func47, Tryd.ntmps47
      go_wp2
      go_ret
      exact ⟨rfl, hga⟩
  · have hm : mayZ a b c = false := by simp [mayZ, h1]
    rw [hm]
    have d1 : decide (1 ≤ a) = false := by simp [h1]
    unfold pz
    go_enter Tryd.func47, Tryd.ntmps47
    go_wp2
    go_ret
    exact ⟨rfl, hga⟩

set_option maxHeartbeats 400000 in
theorem log2_half {n : Nat} (h : 2 ≤ n) : Nat.log2 n = Nat.log2 (n / 2) + 1 := by rw [Nat.log2_def, if_pos h]
theorem log2_256 {x : Nat} (h : 256 ≤ x) : Nat.log2 x = Nat.log2 (x / 256) + 8 := by
  rw [log2_half (n := x) (by omega), log2_half (n := x / 2) (by omega), log2_half (n := x / 2 / 2) (by omega), log2_half (n := x / 2 / 2 / 2) (by omega), log2_half (n := x / 2 / 2 / 2 / 2) (by omega),
    log2_half (n := x / 2 / 2 / 2 / 2 / 2) (by omega), log2_half (n := x / 2 / 2 / 2 / 2 / 2 / 2) (by omega), log2_half (n := x / 2 / 2 / 2 / 2 / 2 / 2 / 2) (by omega), show x / 2 / 2 / 2 / 2 / 2 / 2 / 2 / 2 = x / 256 by omega]
theorem ba_get (t : ByteArray) (i : Nat) (h : i < t.size) : t[i]'h = t.data.toList.getD i 0 := by
  show t.data[i] = _
  rw [List.getD_eq_getElem?_getD, Array.getElem?_toList, Array.getElem?_eq_getElem h]; rfl
set_option maxRecDepth 100000 in
theorem len64_any (x : Nat) (w : World) (h1 : 1 ≤ x) (h2 : x ≤ 4096) :
    Calls Tryd.prog 107 #[.int .u64 (x : Int)] w fun e w' => e = .returned (.int .i64 ((Nat.log2 x + 1 : Nat) : Int)) ∧ w = w' := by
  by_cases h3 : x < 256
  · go_enter Tryd.func107, Tryd.ntmps107
    have d1 : decide ((x : Int) ≥ 4294967296) = false := by simp; omega
    have d2 : decide ((x : Int) ≥ 65536) = false := by simp; omega
    have d3 : decide ((x : Int) ≥ 256) = false := by simp; omega
    go_wp2
    go_ret
    refine ⟨congrArg (fun z => Ending.returned (.int .i64 z)) ?_, rfl⟩
    clear d1 d2 d3
    obtain ⟨k, rfl⟩ : ∃ k : Fin 256, x = k.1 := ⟨⟨x, h3⟩, rfl⟩
    rename_i hx0
    rw [ba_get]
    clear hx0 h2 h3
    revert k
    decide +kernel
  · have hL := log2_256 (x := x) (by omega)
    rw [hL]
    have hq : (x : Int) / 256 = ((x / 256 : Nat) : Int) := by omega
    have hy1 : 1 ≤ x / 256 := by omega
    have hy2 : x / 256 ≤ 16 := by omega
    generalize x / 256 = y at *
    go_enter Tryd.func107, Tryd.ntmps107
    have d1 : decide ((x : Int) ≥ 4294967296) = false := by simp; omega
    have d2 : decide ((x : Int) ≥ 65536) = false := by simp; omega
    have d3 : decide ((x : Int) ≥ 256) = true := by simp; omega
    go_wp2
    go_ret
    refine ⟨congrArg (fun z => Ending.returned (.int .i64 z)) ?_, rfl⟩
    clear d1 d2 d3 hq hL
    rename_i hy0
    rw [ba_get]
    obtain ⟨k, rfl⟩ : ∃ k : Fin 17, y = k.1 := ⟨⟨y, by omega⟩, rfl⟩
    clear hy0 h1 h2 h3 hy2 x
    revert k
    decide +kernel
theorem len_any (x : Nat) (w : World) (h1 : 1 ≤ x) (h2 : x ≤ 4096) :
    Calls Tryd.prog 84 #[.int .u64 (x : Int)] w fun e w' => e = .returned (.int .i64 ((Nat.log2 x + 1 : Nat) : Int)) ∧ w = w' := by
  have L := fun u => len64_any x u h1 h2
  generalize Nat.log2 x + 1 = y at *
  go_enter Tryd.func84, Tryd.ntmps84
  go_wp2_with fail
  refine (L _).mono ?_
  rintro e w' ⟨rfl, rfl⟩
  go_wp2_with fail
  go_ret
  exact ⟨rfl, rfl⟩

/-- The mask. -/
def maskOf (a b c : Int) : Nat := if mayZ a b c = true then powOf b.toNat - 1 else 0
theorem mask_of {p : Prm} (h : p.Ok) : maskOf p.mn p.av p.mx = powOf p.av - 1 := by unfold maskOf; rw [if_pos (may_ok h)]; rfl
theorem log2_top {n : Nat} (h : n ≤ 4096) : Nat.log2 n ≤ 12 := by
  rcases Nat.eq_zero_or_pos n with rfl | h0
  · decide
  · exact Nat.lt_succ_iff.1 ((Nat.log2_lt (by omega)).2 (by omega))
theorem mask_any (a b c : Int) (w : World) :
    Calls Tryd.prog 87 #[pz a b c] w fun e w' => e = .returned (uv (maskOf a b c)) ∧ Grows w w' := by
  have hga := grows_alloc w (.cells #[.int .i64 a, .int .i64 b, .int .i64 c] 24)
  have M := fun u => may_any a b c u
  unfold pz at *
  cases hm : mayZ a b c with
  | true =>
    have hmk : maskOf a b c = powOf b.toNat - 1 := by simp [maskOf, hm]
    rw [hm] at M
    simp only [mayZ, decide_eq_true_eq] at hm
    obtain ⟨n, rfl⟩ : ∃ n : Nat, b = (n : Int) := ⟨b.toNat, by omega⟩
    rw [hmk, Int.toNat_natCast]
    have hk := log2_top (n := n) (by omega)
    have L := fun u => len_any n u (by omega) (by omega)
    unfold powOf
    generalize Nat.log2 n = k at *
    have hp : (2 : Nat) ^ k ≤ 4096 := Nat.le_trans (Nat.pow_le_pow_right (by omega) hk) (by decide)
    have hp1 : 0 < (2 : Nat) ^ k := Nat.two_pow_pos k
    have hn1 : n ≤ 4096 := by omega
    go_enter Tryd.func87, Tryd.ntmps87
    go_wp2_with fail
    refine (M _).mono ?_
    rintro e w1 ⟨rfl, hg⟩
    have hc : w1.cell? ⟨w.heap.size, 1, none⟩ = some (.int .i64 (n : Int)) := hcell_later (by simp) hg
    have hg2 := Grows.trans hga hg
    have hcv : IntKind.u64.wrap (n : Int) = (n : Int) := by rw [IntKind.wrap_u64]; omega
    go_wp2_with fail
    refine (L _).mono ?_
    rintro e w2 ⟨rfl, rfl⟩
    have hk1 : ((k + 1 : Nat) : Int) - 1 = (k : Int) := by omega
    go_wp2_with fail
    go_ret
    refine ⟨ret_u32 ?_, hg2⟩
    rw [show (2 : Int) ^ k = ((2 ^ k : Nat) : Int) by simp]
    generalize 2 ^ k = q at *
    omega
  | false =>
    have hmk : maskOf a b c = 0 := by simp [maskOf, hm]
    rw [hm] at M
    rw [hmk]
    go_enter Tryd.func87, Tryd.ntmps87
    go_wp2_with fail
    refine (M _).mono ?_
    rintro e w1 ⟨rfl, hg⟩
    have hg2 := Grows.trans hga hg
    go_wp2_with fail
    go_ret
    exact ⟨rfl, hg2⟩

/-- A knife's cells in block b, over the roll in block rb, of the bytes since the last cut. -/
structure Knife (w : World) (b rb : Nat) (p : Prm) (l : List UInt8) : Prop where
  has : Has w b [.int .i64 p.mn, .int .i64 p.av, .int .i64 p.mx, uv (powOf p.av - 1), .pointer (some ⟨rb, 0, none⟩), .int .i64 (l.length : Int)]
  roll : Rolls w rb l
  ne : b ≠ rb
  kb : b ≠ 0
  kr : rb ≠ 0
/-- The knife's two blocks. -/
def KB (b rb : Nat) (k : Nat) : Prop := k = b ∨ k = rb
theorem Knife.turned {w w' : World} {b rb : Nat} {p : Prm} {l : List UInt8} {S : Nat → Prop} (K : Knife w b rb p l) (ht : Turns S w w') (h1 : ¬ S b) (h2 : ¬ S rb) : Knife w' b rb p l := ⟨K.has.turned ht h1, K.roll.turned ht h2, K.ne, K.kb, K.kr⟩
theorem Knife.later {w w' : World} {b rb : Nat} {p : Prm} {l : List UInt8} (K : Knife w b rb p l) (hg : Grows w w') : Knife w' b rb p l := ⟨K.has.later hg, K.roll.later hg, K.ne, K.kb, K.kr⟩
theorem lift_any (b rb : Nat) (p : Prm) (l : List UInt8) (w : World) (K : Knife w b rb p l) :
    Calls Tryd.prog 90 #[.pointer (some ⟨b, 0, none⟩)] w fun e w' => e = .returned (.tuple #[]) ∧ Knife w' b rb p [] ∧ Turns (KB b rb) w w' := by
  have hc := K.has.cell (k := 4) rfl
  have R := reset_any rb l w K.roll
  go_enter Tryd.func90, Tryd.ntmps90
  go_wp2_with fail
  refine R.mono ?_
  rintro e w1 ⟨rfl, hr1, ht1⟩
  have hb1 := K.has.turned ht1 (by have := K.ne; omega)
  have hc5 := hb1.cell (k := 5) rfl
  have hf5 := hb1.free 5
  have hb2 := hb1.set_ (k := 5) (by simp) (.int .i64 0)
  have hr2 : Rolls (w1.setCell ⟨b, 5, none⟩ (.int .i64 0)) rb [] := hr1.turned (Turns.of_set (S := fun k => k = b) w1 _ rfl) (by have := K.ne; omega)
  have ht2 : Turns (KB b rb) w (w1.setCell ⟨b, 5, none⟩ (.int .i64 0)) := (ht1.mono fun _ _ h => .inr h).trans (Turns.of_set w1 _ (.inl rfl))
  go_wp2_with fail
  go_end0
  exact ⟨rfl, ⟨hb2, hr2, K.ne, K.kb, K.kr⟩, ht2⟩

theorem newknife_any (p : Prm) (w : World) (hp : p.Ok) (hs : Starts w) :
    Calls Tryd.prog 72 #[pv p] w fun e w' => ∃ b rb, e = .returned (.pointer (some ⟨b, 0, none⟩)) ∧ w.heap.size ≤ b ∧ w.heap.size ≤ rb ∧ Knife w' b rb p [] ∧ Grows w w' := by
  have hz := hs.pos
  have M : Hid (∀ u, Calls Tryd.prog 87 #[pv p] u fun e w' => e = .returned (uv (powOf p.av - 1)) ∧ Grows u w') := fun u => by
    have := mask_any p.mn p.av p.mx u
    rwa [mask_of hp] at this
  have hN := Has.new w 24 [.int .i64 (p.mn : Int), .int .i64 (p.av : Int), .int .i64 (p.mx : Int)]
  have hga := grows_alloc w (.cells #[.int .i64 (p.mn : Int), .int .i64 (p.av : Int), .int .i64 (p.mx : Int)] 24)
  unfold pv pz at *
  obtain ⟨mk, hmk⟩ : ∃ mk, mk = powOf p.av - 1 := ⟨_, rfl⟩
  rw [← hmk] at M
  have HMK := Lib.hid hmk
  clear hmk
  go_enter Tryd.func72, Tryd.ntmps72
  go_wp2_with fail
  generalize hw1 : w.alloc (.cells #[.int .i64 (p.mn : Int), .int .i64 (p.av : Int), .int .i64 (p.mx : Int)] 24) = w1 at *
  have HW1 : Hid (w1.heap.size = w.heap.size + 1) := by show _ = _; rw [← hw1]; simp
  clear hw1
  have hld := hN.load (P := Tryd.prog) Tryd.underlying24 rfl (by kernel_rfl)
  refine wp_region_ord 7 [(0, true), (1, true), (2, true), (3, false), (4, true), (5, false), (6, true)] (by kernel_rfl) (by kernel_rfl) ?_
  have hgd := (Grows.refl w1).drew
  have ldP : ∀ u, Grows w1.drew u → (Instr.loadAt 24 (.pointer (some ⟨w.heap.size, 0, none⟩))).run Tryd.prog u = .ok (.agg #[.int .i64 (p.mn : Int), .int .i64 (p.av : Int), .int .i64 (p.mx : Int)]) u := fun u hu =>
    (hN.later (Grows.trans hgd hu)).load (P := Tryd.prog) Tryd.underlying24 rfl (by kernel_rfl)
  have hO := Grows.refl w1.drew
  generalize hwd : w1.drew = wd at *
  clear hwd
  repeat (first | (refine ord_load hO _ _ (by simp only [List.getElem?_cons_succ, List.getElem?_cons_zero]; rfl) (by rfl) 24 (.tmp 1) (by rfl) _ (by rfl) ldP ?_; try simp only [Act.put, List.setIfInBounds_toArray, List.set_cons_zero, List.set_cons_succ]) | (refine ord_take hO _ ?_ (by simp only [List.getElem?_cons_succ, List.getElem?_cons_zero]; rfl) (by rfl) ?_ ?_; rotate_left; (· (intro u hu0 hu; (try go_simp); (try with_reducible rfl))); try simp only [Act.put, List.setIfInBounds_toArray, List.set_cons_zero, List.set_cons_succ]) | (refine ord_skip _ (by simp only [List.getElem?_cons_succ, List.getElem?_cons_zero]; rfl) (by rfl) ?_; try simp only [Act.put, List.setIfInBounds_toArray, List.set_cons_zero, List.set_cons_succ]) | (refine ord_call hO _ ?_ (by simp only [List.getElem?_cons_succ, List.getElem?_cons_zero]; rfl) (by rfl) ?_ ?_; rotate_left; (· (intro u hu0 hu; go_simp; (try refine quiet_enter ?_); (with_reducible exact M.out u))); try simp only [Act.put, List.setIfInBounds_toArray, List.set_cons_zero, List.set_cons_succ]))
  (refine ord_move _ (by simp only [List.getElem?_cons_succ, List.getElem?_cons_zero]; rfl) (by rfl) (fun u hu K hK => ?_); go_simp)
  refine (rollnew_any u).mono ?_
  rintro e w4 ⟨rb, rfl, hrb, hr4, hg4⟩
  refine hK.out _ _ hg4 ?_
  clear hK K hO ldP hld
  have hg5 : Grows w w4 := Grows.trans hga (Grows.trans hgd (Grows.trans hu hg4))
  have hrb5 : w.heap.size ≤ rb := Nat.le_trans (Grows.trans hga (Grows.trans hgd hu)).size hrb
  clear hgd hu hg4 hrb
  have hO := Grows.refl w4
  repeat (first | (refine ord_take hO _ ?_ (by simp only [List.getElem?_cons_succ, List.getElem?_cons_zero]; rfl) (by rfl) ?_ ?_; rotate_left; (· (intro u hu0 hu; (try go_simp); (try with_reducible rfl))); try simp only [Act.put, List.setIfInBounds_toArray, List.set_cons_zero, List.set_cons_succ]) | (refine ord_skip _ (by simp only [List.getElem?_cons_succ, List.getElem?_cons_zero]; rfl) (by rfl) ?_; try simp only [Act.put, List.setIfInBounds_toArray, List.set_cons_zero, List.set_cons_succ]))
  (refine ord_move _ (by simp only [List.getElem?_cons_succ, List.getElem?_cons_zero]; rfl) (by rfl) (fun u hu K hK => ?_); go_simp)
  refine hK.out _ _ (grows_alloc _ _) ?_
  clear hK K hO
  have hgu : Grows w u := Grows.trans hg5 hu
  have hru := hr4.later hu
  have hbn := Has.new u 126 [.int .i64 (p.mn : Int), .int .i64 (p.av : Int), .int .i64 (p.mx : Int), uv mk, .pointer (some ⟨rb, 0, none⟩), .int .i64 0]
  have hg6 : Grows u (u.alloc (.cells [.int .i64 (p.mn : Int), .int .i64 (p.av : Int), .int .i64 (p.mx : Int), uv mk, .pointer (some ⟨rb, 0, none⟩), .int .i64 0].toArray 126)) := grows_alloc _ _
  have hru6 := hru.later hg6
  have hge : w.heap.size ≤ u.heap.size := hgu.size
  have hne : u.heap.size ≠ rb := by have := hru.lt; omega
  have hg7 := Grows.trans hgu hg6
  clear hu hg6 hru hgu
  generalize u.heap.size = b at *
  generalize hw7 : u.alloc (.cells [.int .i64 (p.mn : Int), .int .i64 (p.av : Int), .int .i64 (p.mx : Int), uv mk, .pointer (some ⟨rb, 0, none⟩), .int .i64 0].toArray 126) = w7 at *
  clear hw7
  have hO := Grows.refl w7
  repeat (first | (refine ord_take hO _ ?_ (by simp only [List.getElem?_cons_succ, List.getElem?_cons_zero]; rfl) (by rfl) ?_ ?_; rotate_left; (· (intro u hu0 hu; (try go_simp); (try with_reducible rfl))); try simp only [Act.put, List.setIfInBounds_toArray, List.set_cons_zero, List.set_cons_succ]) | (refine ord_skip _ (by simp only [List.getElem?_cons_succ, List.getElem?_cons_zero]; rfl) (by rfl) ?_; try simp only [Act.put, List.setIfInBounds_toArray, List.set_cons_zero, List.set_cons_succ]))
  refine ord_done (fun w8 hu => ?_); simp only [List.drop_succ_cons, List.drop_zero]
  have hb8 := hbn.later hu
  have hr8 := hru6.later hu
  have hg8 := Grows.trans hg7 hu
  clear hu hg7
  go_wp2_with fail
  refine NoPanic.normal ?_
  go_wp2_with fail
  go_ret
  exact ⟨b, rb, rfl, hge, hrb5, ⟨by rw [← HMK.out]; exact hb8, hr8, hne, by omega, by omega⟩, hg8⟩
end Go.Proofs.YtnokloedbckijaaDoor

/-
  Contract of (*knife).next: along bytes to the next cut.
-/
namespace Go.Proofs.YtnokloedbckijaaDoor
open Go.RowKit
set_option linter.unusedVariables false
set_option maxRecDepth 20000

/-- What a knife has behind it when it has gone along b. -/
def behind (p : Prm) (l b : List UInt8) : List UInt8 := if (scan p l b).2 = true then [] else l ++ b
theorem mask_zero (h av : Nat) (hh : h < 4294967296) (hp : powOf av ≤ 4096) : bits .and .u32 (h : Int) ((powOf av - 1 : Nat) : Int) = ((h % powOf av : Nat) : Int) := by
  rw [u32_and_nat _ _ hh (by omega)]
  unfold powOf
  rw [and_pow]

set_option maxRecDepth 20000 in
set_option maxHeartbeats 2000000 in
theorem next_any (b rb B : Nat) (p : Prm) (l : List UInt8) (A : Option Addr) (n c : Nat) (bs : List UInt8) (w : World) (hp : p.Ok) (K : Knife w b rb p l) (hs : Starts w)
    (hl : bs.length = n) (hr : Lies w B A (bs.map bv)) (hb : B ≤ b) (hrb : B ≤ rb) (hn : l.length + n ≤ 1000000000000) :
    Calls Tryd.prog 73 #[.pointer (some ⟨b, 0, none⟩), .slice A n c] w fun e w' =>
      e = .returned (.tuple #[.int .i64 ((scan p l bs).1 : Int), .bool (scan p l bs).2]) ∧ Knife w' b rb p (behind p l bs) ∧ Turns (KB b rb) w w' := by
  have hne := K.ne
  have hkb := K.kb
  have hkr := K.kr
  have hpw : powOf p.av ≤ 4096 := by have := powOf_le (n := p.av) (by have := hp.mn; have := hp.av; omega); have := hp.mx; have := hp.top; omega
  have hc4 := K.has.cell (k := 4) rfl
  have HK := Lib.hid K
  have HR := Lib.hid hr
  have HL := Lib.hid hl
  clear K hr hl
  have h0n : (0 : Int) ≤ n := by omega
  go_enter Tryd.func73, Tryd.ntmps73
  go_wp2_with fail
  go_loopw [17] (fun i wr => ∃ k : Nat, k ≤ n ∧ i = .int .i64 (k : Int) ∧ Knife wr b rb p (l ++ bs.take k) ∧ Turns (KB b rb) w wr ∧ Hid (∀ j, 1 ≤ j → j ≤ k → cutAt p (l ++ bs.take j) = false)) (fun i _ => n - (intOf i).toNat)
  case atStart => exact ⟨0, Nat.zero_le _, rfl, by rw [List.take_zero, List.append_nil]; exact HK.out, Turns.refl _ _, fun j h1 h2 => by omega⟩
  case round =>
    obtain ⟨k, hk, rfl, K1, T1, HNO⟩ := hrel
    by_cases hlt : k < n
    · obtain ⟨x, hx⟩ : ∃ x, bs[k]? = some x := ⟨_, List.getElem?_eq_getElem (by rw [HL.out]; exact hlt)⟩
      have HTK : Hid (l ++ bs.take (k + 1) = (l ++ bs.take k) ++ [x]) := by
        show _ = _
        have hkl : k < bs.length := by rw [HL.out]; exact hlt
        rw [List.take_succ_eq_append_getElem hkl, List.append_assoc, (List.getElem?_eq_some_iff.1 hx).2]
      have hlen : (l ++ bs.take k).length = l.length + k := by rw [List.length_append, List.length_take, HL.out]; omega
      have hlen1 : (l ++ bs.take (k + 1)).length = l.length + k + 1 := by rw [List.length_append, List.length_take, HL.out]; omega
      obtain ⟨ad, hA, hab, hcx⟩ := HR.out.at_ (j := k) (u := bv x) (by rw [List.getElem?_map, hx]; rfl)
      subst hA
      have hcx1 := T1.cell hcx (fun h => by rw [add_block] at h; rcases h with h | h <;> omega)
      have hs1 := hs.turned T1 (fun h => by rcases h with h | h <;> omega)
      have A1 : Hid (Calls Tryd.prog 89 #[.pointer (some ⟨rb, 0, none⟩), bv x] wr fun e w' => e = .returned (uv (hashOf (l ++ bs.take (k + 1)))) ∧ Rolls w' rb (l ++ bs.take (k + 1)) ∧ Turns (fun k => k = rb) wr w') := by
        have := add_any rb (l ++ bs.take k) x wr K1.roll hs1 hkr
        rwa [← HTK.out] at this
      have hx8 : bv x = .int .u8 (x.toNat : Int) := rfl
      rw [hx8] at hcx1 A1
      have hh := hashOf_lt (l ++ bs.take (k + 1))
      have hK1 := K1.has
      rw [hlen] at hK1
      have HEQ : Hid (∀ m, (l ++ bs.take (k + 1)).length = m → m = l.length + k + 1) := fun m h => by rw [← h]; exact hlen1
      obtain ⟨L, hL⟩ : ∃ L, L = l ++ bs.take (k + 1) := ⟨_, rfl⟩
      rw [← hL] at A1 hh hlen1
      have HLL := Lib.hid hL
      clear hL hx hlen HEQ HTK
      have hki : (k : Int) < (n : Int) := by omega
      go_wp2_with fail
      refine A1.out.mono ?_
      rintro e w2 ⟨rfl, hr2, T2⟩
      have hb2 := hK1.turned T2 hne
      have hc5 := hb2.cell (k := 5) rfl
      have hf5 := hb2.free 5
      have hb3 := hb2.set_ (k := 5) (by simp) (.int .i64 ((l.length + k + 1 : Nat) : Int))
      have hr3 : Rolls (w2.setCell ⟨b, 5, none⟩ (.int .i64 ((l.length + k + 1 : Nat) : Int))) rb L := hr2.turned (Turns.of_set (S := fun k => k = b) w2 _ rfl) (fun h => hne h.symm)
      have T3 : Turns (KB b rb) w (w2.setCell ⟨b, 5, none⟩ (.int .i64 ((l.length + k + 1 : Nat) : Int))) := (T1.trans (T2.mono fun _ _ h => .inr h)).trans (Turns.of_set w2 _ (.inl rfl))
      have K3 : Knife (w2.setCell ⟨b, 5, none⟩ (.int .i64 ((l.length + k + 1 : Nat) : Int))) b rb p L := ⟨by rw [hlen1]; exact hb3, hr3, hne, hkb, hkr⟩
      clear hb3 hr3 hr2 T2 hK1
      rw [show ((l.length + k + 1 : Nat) : Int) = ((l.length + k : Nat) : Int) + 1 by omega] at K3 T3
      generalize hm : l.length + k = m at *
      have hw64 : IntKind.i64.wrap ((m : Int) + 1) = (m : Int) + 1 := IntWalk.i64_in _ (by omega)
      have HM := Lib.hid hm
      clear hm
      go_wp2_with fail
      generalize w2.setCell ⟨b, 5, none⟩ (.int .i64 ((m : Int) + 1)) = w3 at *
      clear hc5 hf5 hb2 hcx1 K1 T1 hw64
      have hK3 := K3.has
      rw [hlen1] at hK3
      have HK3 := Lib.hid hK3
      have HHS := Lib.hid (show ∀ u, Grows w3 u → Knife u b rb p L ∧ Turns (KB b rb) w u from fun u h => ⟨K3.later h, T3.trans (Turns.of_grows h)⟩)
      clear hK3 K3 T3
      have hgd := (Grows.refl w3).drew
      have f0 : ∀ u, Grows w3.drew u → u.cell? ⟨b, 0, none⟩ = some (.int .i64 (p.mn : Int)) := fun u h => (HK3.out.later (Grows.trans hgd h)).cell (k := 0) rfl
      have f2 : ∀ u, Grows w3.drew u → u.cell? ⟨b, 2, none⟩ = some (.int .i64 (p.mx : Int)) := fun u h => (HK3.out.later (Grows.trans hgd h)).cell (k := 2) rfl
      have f3 : ∀ u, Grows w3.drew u → u.cell? ⟨b, 3, none⟩ = some (.int .u32 ((powOf p.av - 1 : Nat) : Int)) := fun u h => (HK3.out.later (Grows.trans hgd h)).cell (k := 3) rfl
      have f5 : ∀ u, Grows w3.drew u → u.cell? ⟨b, 5, none⟩ = some (.int .i64 ((m : Int) + 1)) := fun u h => (HK3.out.later (Grows.trans hgd h)).cell (k := 5) (by simp)
      have hmz := mask_zero (hashOf L) p.av hh hpw
      have HCUT : Hid (cutAt p L = (decide (m + 1 = p.mx) || (decide (p.mn ≤ m + 1) && decide (hashOf L % powOf p.av = 0)))) := by
        show _ = _
        unfold cutAt
        rw [hlen1]; rfl
      have hO := Grows.refl w3.drew
      generalize hashOf L = h at *
      generalize h % powOf p.av = r at *
      generalize powOf p.av - 1 = mk at *
      by_cases hA : m + 1 = p.mx
      · have hcut : cutAt p L = true := by rw [HCUT.out]; simp [hA]
        have e1 : (((m : Int) + 1) == (p.mx : Int)) = true := by simp; omega
        refine wp_region_ord 31 [(0, true), (1, true), (2, true), (3, true), (4, true), (5, true), (6, true), (7, true), (8, true), (9, true), (10, true), (11, true), (12, true), (13, true), (14, true), (15, true), (16, true), (17, true), (18, true), (19, true), (20, true), (21, true), (22, true), (23, true), (24, true), (25, true), (26, true), (27, true), (28, true), (29, true), (30, true)] (by kernel_rfl) (by kernel_rfl) ?_
        repeat (first | (refine ord_take hO _ ?_ (by simp only [List.getElem?_cons_succ, List.getElem?_cons_zero]; rfl) (by rfl) ?_ ?_; rotate_left; (· (intro u hu0 hu; (try go_simp); (try with_reducible rfl))); try simp only [Act.put, List.setIfInBounds_toArray, List.set_cons_zero, List.set_cons_succ]) | (refine ord_skip _ (by simp only [List.getElem?_cons_succ, List.getElem?_cons_zero]; rfl) (by rfl) ?_; try simp only [Act.put, List.setIfInBounds_toArray, List.set_cons_zero, List.set_cons_succ]))
        refine ord_done (fun w4 hu => ?_); simp only [List.drop_succ_cons, List.drop_zero]
        obtain ⟨K4, T4⟩ := HHS.out w4 (Grows.trans hgd hu)
        clear f0 f2 f3 f5 hO hu hgd
        go_wp2_with fail
        refine NoPanic.normal ?_
        go_wp2_with fail
        refine (lift_any b rb p L w4 K4).mono ?_
        rintro e w5 ⟨rfl, K5, T5⟩
        have T6 := T4.trans T5
        have hcv : IntKind.i64.wrap ((k : Int) + 1) = (k : Int) + 1 := IntWalk.i64_in _ (by omega)
        go_wp2_with fail
        go_ret2
        have hsc : scan p l bs = (k + 1, true) := scan_find p bs l (k + 1) (by omega) (by rw [HL.out]; omega) (fun j h1 h2 => HNO.out j h1 (by omega)) (by rw [← HLL.out]; exact hcut)
        refine ⟨by rw [hsc]; rfl, ?_, T6⟩
        unfold behind
        rw [hsc, if_pos rfl]
        exact K5
      · have e1 : (((m : Int) + 1) == (p.mx : Int)) = false := by simp; omega
        by_cases hB : p.mn ≤ m + 1
        · have e2 : decide (((m : Int) + 1) ≥ (p.mn : Int)) = true := by simp; omega
          by_cases hC : r = 0
          · have hcut : cutAt p L = true := by rw [HCUT.out]; simp [hB, hC]
            have e3 : ((r : Int) == 0) = true := by simp; omega
            refine wp_region_ord 31 [(0, true), (1, true), (2, true), (3, true), (4, true), (5, true), (6, true), (7, true), (8, true), (9, true), (10, true), (11, true), (12, true), (13, true), (14, true), (15, true), (16, true), (17, true), (18, true), (19, true), (20, true), (21, true), (22, true), (23, true), (24, true), (25, true), (26, true), (27, true), (28, true), (29, true), (30, true)] (by kernel_rfl) (by kernel_rfl) ?_
            repeat (first | (refine ord_take hO _ ?_ (by simp only [List.getElem?_cons_succ, List.getElem?_cons_zero]; rfl) (by rfl) ?_ ?_; rotate_left; (· (intro u hu0 hu; (try go_simp); (try with_reducible rfl))); try simp only [Act.put, List.setIfInBounds_toArray, List.set_cons_zero, List.set_cons_succ]) | (refine ord_skip _ (by simp only [List.getElem?_cons_succ, List.getElem?_cons_zero]; rfl) (by rfl) ?_; try simp only [Act.put, List.setIfInBounds_toArray, List.set_cons_zero, List.set_cons_succ]))
            refine ord_done (fun w4 hu => ?_); simp only [List.drop_succ_cons, List.drop_zero]
            obtain ⟨K4, T4⟩ := HHS.out w4 (Grows.trans hgd hu)
            clear f0 f2 f3 f5 hO hu hgd
            go_wp2_with fail
            refine NoPanic.normal ?_
            go_wp2_with fail
            refine (lift_any b rb p L w4 K4).mono ?_
            rintro e w5 ⟨rfl, K5, T5⟩
            have T6 := T4.trans T5
            have hcv : IntKind.i64.wrap ((k : Int) + 1) = (k : Int) + 1 := IntWalk.i64_in _ (by omega)
            go_wp2_with fail
            go_ret2
            have hsc : scan p l bs = (k + 1, true) := scan_find p bs l (k + 1) (by omega) (by rw [HL.out]; omega) (fun j h1 h2 => HNO.out j h1 (by omega)) (by rw [← HLL.out]; exact hcut)
            refine ⟨by rw [hsc]; rfl, ?_, T6⟩
            unfold behind
            rw [hsc, if_pos rfl]
            exact K5
          · have hcut : cutAt p L = false := by rw [HCUT.out]; simp [hA, hC]
            have e3 : ((r : Int) == 0) = false := by simp; omega
            refine wp_region_ord 31 [(0, true), (1, true), (2, true), (3, true), (4, true), (5, true), (6, true), (7, true), (8, true), (9, true), (10, true), (11, true), (12, true), (13, true), (14, true), (15, true), (16, true), (17, true), (18, true), (19, true), (20, true), (21, true), (22, true), (23, true), (24, true), (25, true), (26, true), (27, true), (28, true), (29, true), (30, true)] (by kernel_rfl) (by kernel_rfl) ?_
            repeat (first | (refine ord_take hO _ ?_ (by simp only [List.getElem?_cons_succ, List.getElem?_cons_zero]; rfl) (by rfl) ?_ ?_; rotate_left; (· (intro u hu0 hu; (try go_simp); (try with_reducible rfl))); try simp only [Act.put, List.setIfInBounds_toArray, List.set_cons_zero, List.set_cons_succ]) | (refine ord_skip _ (by simp only [List.getElem?_cons_succ, List.getElem?_cons_zero]; rfl) (by rfl) ?_; try simp only [Act.put, List.setIfInBounds_toArray, List.set_cons_zero, List.set_cons_succ]))
            refine ord_done (fun w4 hu => ?_); simp only [List.drop_succ_cons, List.drop_zero]
            obtain ⟨K4, T4⟩ := HHS.out w4 (Grows.trans hgd hu)
            clear f0 f2 f3 f5 hO hu hgd
            go_wp2_with fail
            refine NoPanic.normal ?_
            go_wp2_with fail
            go_roundw
            case rel => exact ⟨k + 1, by omega, by go_num, by rw [← HLL.out]; exact K4, T4, fun j h1 h2 => by
              rcases Nat.lt_or_ge k j with h | h
              · obtain rfl : j = k + 1 := by omega
                rw [← HLL.out]; exact hcut
              · exact HNO.out j h1 h⟩
            case measure => simp [intOf]; omega
        · have hcut : cutAt p L = false := by rw [HCUT.out]; simp [hA, hB]
          have e2 : decide (((m : Int) + 1) ≥ (p.mn : Int)) = false := by simp; omega
          refine wp_region_ord 31 [(0, true), (1, true), (2, true), (3, true), (4, true), (5, true), (6, true), (7, true), (8, true), (9, true), (10, true), (11, true), (12, true), (13, true), (14, true), (15, true), (16, true), (17, true), (18, true), (19, true), (20, true), (21, true), (22, true), (23, true), (24, true), (25, true), (26, true), (27, true), (28, true), (29, true), (30, true)] (by kernel_rfl) (by kernel_rfl) ?_
          repeat (first | (refine ord_take hO _ ?_ (by simp only [List.getElem?_cons_succ, List.getElem?_cons_zero]; rfl) (by rfl) ?_ ?_; rotate_left; (· (intro u hu0 hu; (try go_simp); (try with_reducible rfl))); try simp only [Act.put, List.setIfInBounds_toArray, List.set_cons_zero, List.set_cons_succ]) | (refine ord_skip _ (by simp only [List.getElem?_cons_succ, List.getElem?_cons_zero]; rfl) (by rfl) ?_; try simp only [Act.put, List.setIfInBounds_toArray, List.set_cons_zero, List.set_cons_succ]))
          refine ord_done (fun w4 hu => ?_); simp only [List.drop_succ_cons, List.drop_zero]
          obtain ⟨K4, T4⟩ := HHS.out w4 (Grows.trans hgd hu)
          clear f0 f2 f3 f5 hO hu hgd
          go_wp2_with fail
          refine NoPanic.normal ?_
          go_wp2_with fail
          go_roundw
          case rel => exact ⟨k + 1, by omega, by go_num, by rw [← HLL.out]; exact K4, T4, fun j h1 h2 => by
            rcases Nat.lt_or_ge k j with h | h
            · obtain rfl : j = k + 1 := by omega
              rw [← HLL.out]; exact hcut
            · exact HNO.out j h1 h⟩
          case measure => simp [intOf]; omega
    · have hkn : k = n := by omega
      subst hkn
      have d1 : decide ((k : Int) < (k : Int)) = false := by simp
      go_wp2_with fail
      go_ret2
      have hsc : scan p l bs = (bs.length, false) := scan_none p bs l (fun j h1 h2 => HNO.out j h1 (by rw [HL.out] at h2; exact h2))
      refine ⟨by rw [hsc, HL.out]; rfl, ?_, T1⟩
      unfold behind
      rw [hsc, if_neg (by simp)]
      rwa [List.take_of_length_le (by rw [HL.out]; exact Nat.le_refl _)] at K1
end Go.Proofs.YtnokloedbckijaaDoor

/-
  Iterators that keep memory of their own (of no program): the contract of a function that is ranged over, and the law of the loop. The blocks from the entry's heap on below a mark m are the iterator's; a round may turn the blocks of O, and what is new from m on.
-/
namespace Go.Proofs.YtnokloedbckijaaDoor
open Go.RowKit
set_option linter.unusedVariables false
set_option linter.unusedSectionVars false

/-- What a round may turn. -/
def Rnd (O : Nat → Prop) (m : Nat) (k : Nat) : Prop := O k ∨ m ≤ k
/-- What the iterator may turn. -/
def Itn (n m : Nat) (k : Nat) : Prop := n ≤ k ∧ k < m
/-- The contract of an iterator that is entered in the world W: it goes through xs; A m W0 W x v: in W, grown from W0 where the loop's own word held, the value v is x. -/
def SeqAt {α : Type} (P : Program) (g : Nat) (lb : Array Value) (A : Nat → World → World → α → Value → Prop) (xs : List α) (O : Nat → Prop) (W : World) : Prop :=
  ∀ (l : Nat) (J Jx : Nat → List α → World → Prop),
    (∀ m pre A' B', J m pre A' → Turns (Itn W.heap.size m) A' B' → J m pre B') →
    (∀ m pre A' B', Jx m pre A' → Turns (Itn W.heap.size m) A' B' → Jx m pre B') →
    (∀ m pre x v W0 W1, W.heap.size ≤ m → m ≤ W0.heap.size → J m pre W0 → Grows W0 W1 → (pre ++ [x]) <+: xs → A m W0 W1 x v →
      YieldAt Fence.wide 0 P l #[v] W1 fun e W' =>
        (e = .returned (.bool true) ∧ J m (pre ++ [x]) W' ∧ Turns (Rnd O m) W1 W') ∨ (e = .returned (.bool false) ∧ Jx m (pre ++ [x]) W' ∧ Turns (Rnd O m) W1 W')) →
    (∀ m W1, W.heap.size ≤ m → m ≤ W1.heap.size → Grows W W1 → J m [] W1) →
    CallsIn Fence.wide 0 P g (#[.func (.yield l) #[] #[]] ++ lb) W fun e W' => (∃ v, e = .returned v) ∧ ∃ m, W.heap.size ≤ m ∧ m ≤ W'.heap.size ∧ (J m xs W' ∨ ∃ pre, pre <+: xs ∧ Jx m pre W')
/-- .. in any world that has grown from w; Inp: the blocks that it reads. -/
def SeqOf {α : Type} (P : Program) (g : Nat) (lb : Array Value) (A : Nat → World → World → α → Value → Prop) (xs : List α) (Inp : Nat → Prop) (w : World) : Prop :=
  ∀ (O : Nat → Prop) (W : World), Grows w W → (∀ k, Inp k → ¬ O k) → (∀ k, O k → k < W.heap.size) → SeqAt P g lb A xs O W
theorem SeqOf.later {α : Type} {P : Program} {g : Nat} {lb : Array Value} {A : Nat → World → World → α → Value → Prop} {xs : List α} {Inp : Nat → Prop} {w w' : World}
    (h : SeqOf P g lb A xs Inp w) (hg : Grows w w') : SeqOf P g lb A xs Inp w' := fun O W hW hO hl => h O W (Grows.trans hg hW) hO hl

theorem turns_putObj {S : Nat → Prop} (w : World) (l : Nat) (o : Obj) (hl : S l) : Turns S w (w.putObj l o) :=
  Turns.of_by (grownBy_putObj' w l o) fun g e _ => by cases e; exact hl

/-- How the body of a round may be left. -/
def rndPost {α : Type} (O : Nat → Prop) (m : Nat) (I : Nat → List α → World → Prop) (Ix : Nat → Code → List α → World → Prop) (xs : List α) (W : World) : Exit → Act → World → Prop
  | .normal, _, W' => Turns (Rnd O m) W W' ∧ I m xs W'
  | .ret, _, W' => Turns (Rnd O m) W W' ∧ Ix m .ret xs W'
  | .exit id, _, W' => Turns (Rnd O m) W W' ∧ Ix m (.exit id) xs W'
  | .goto t, _, W' => Turns (Rnd O m) W W' ∧ Ix m (.goto t) xs W'
  | .panic _, _, _ => False
  | .outgrown, _, _ => False

/-- The law of the loop. -/
theorem wp_range {α : Type} {P : Program} {g : Operand} {ps : Array Tmp} {assign body : Code} {Q : Exit → Act → World → Prop} {a : Act} {w : World}
    {gf : Nat} {lb : Array Value} (hg : a.eval g = .func (.func gf) #[] lb) (eg : ∀ args w, (callFunc gf args).run P w = .ok (.enter gf args) w) (hps : ps.size = 1)
    {A : Nat → World → World → α → Value → Prop} {xs : List α} {Inp : Nat → Prop} (hseq : SeqOf P gf lb A xs Inp w) (hInp : ∀ k, Inp k → k < w.heap.size)
    (O : Nat → Prop) (hO : ∀ k, Inp k → ¬ O k) (hOl : ∀ k, O k → k < w.heap.size)
    (I : Nat → List α → World → Prop) (Ix : Nat → Code → List α → World → Prop)
    (hI : ∀ m pre A' B', I m pre A' → Turns (Itn w.heap.size m) A' B' → I m pre B') (hIx : ∀ m c pre A' B', Ix m c pre A' → Turns (Itn w.heap.size m) A' B' → Ix m c pre B')
    (h0 : ∀ m W1, w.heap.size ≤ m → m ≤ W1.heap.size → Grows w W1 → I m [] W1) (a₁ : Value → Act)
    (hassign : ∀ (l : Nat) (v : Value) (W : World) (K : Act → World → Prop), K (a₁ v) W →
      assign.wpIn (Fence.wide.inRound l) 0 P (Exit.then K (fun _ _ _ => False)) { tmps := (ps.zip #[v]).foldl (fun t (p, v) => t.setIfInBounds p v) a.tmps, defers := [] } W)
    (hA : ∀ m W0 x v A' B', w.heap.size + 2 ≤ m → m ≤ W0.heap.size → A m W0 A' x v → Turns (Itn w.heap.size (w.heap.size + 2)) A' B' → A m W0 B' x v)
    (hbody : ∀ (l m : Nat) (pre : List α) (x : α) (v : Value) (W0 W : World), w.heap.size + 2 ≤ m → m ≤ W0.heap.size → I m pre W0 → I m pre W → Turns (Itn w.heap.size (w.heap.size + 2)) W0 W → (pre ++ [x]) <+: xs → A m W0 W x v →
      body.wpIn (Fence.wide.inRound l) 0 P (rndPost O m I Ix (pre ++ [x]) W) (a₁ v) W)
    (hdone : ∀ (D m : Nat) (W : World), w.heap.size + 2 ≤ m → m ≤ W.heap.size → D = w.heap.size → I m xs W → W.heap[D]? = some (.deferred (some [])) → Q .normal { a with defers := { target := .collected D, args := #[] } :: a.defers } W)
    (hstop : ∀ (D m : Nat) (c : Code) (pre : List α) (W : World), w.heap.size + 2 ≤ m → m ≤ W.heap.size → D = w.heap.size → pre <+: xs → Ix m c pre W → W.heap[D]? = some (.deferred (some [])) → c.wpIn Fence.wide 0 P Q { a with defers := { target := .collected D, args := #[] } :: a.defers } W) :
    (Code.rangeFunc g ps assign body).wpIn Fence.wide 0 P Q a w := by
  refine wpIn_rangeFunc ?_
  intro fn hfn
  obtain ⟨rec, hrec⟩ : ∃ rec : LoopState → Option Code → Loop, rec = fun st pe => { state := st, pending := pe, fn, tmps := a.tmps, params := ps, assign, body, defers := w.heap.size } := ⟨_, rfl⟩
  obtain ⟨W1, hW1⟩ : ∃ W1, (w.alloc (.deferred (some []))).alloc (.loop (rec .ready none)) = W1 := ⟨_, rfl⟩
  have hL1 : W1.heap[w.heap.size + 1]? = some (.loop (rec .ready none)) := by
    rw [← hW1]; have := World.alloc_heap_new (w.alloc (.deferred (some []))) (.loop (rec .ready none)); rwa [World.size_alloc] at this
  have hK1 : W1.heap[w.heap.size]? = some (.deferred (some [])) := by
    rw [← hW1]; exact (Below.heap_alloc _ _ _ (by simp)).trans (World.alloc_heap_new w _)
  have hs1 : W1.heap.size = w.heap.size + 2 := by rw [← hW1]; simp
  have hg1 : Grows w W1 := by rw [← hW1]; exact ((Grows.refl w).alloc (Nat.le_refl _) _).alloc (by simp) _
  refine ⟨w.heap.size + 1, [{ target := .collected w.heap.size, args := #[] }], W1, { target := .fn (.func gf) lb, args := #[.func (.yield (w.heap.size + 1)) #[] #[]] }, W1, gf,
    #[.func (.yield (w.heap.size + 1)) #[] #[]] ++ lb, W1, ?_, ?_, ?_, ?_, fun h => by simp [Fence.wide] at h, ?_⟩
  · rw [← hW1, hrec]; exact run_enterLoop_outer _ _ _ _ _
  · simp only [resolve, hg]
    simp [go_sem]
  · intro f' hf'; trivial
  · simp [invoke, go_sem, eg]
  · have hitn : ∀ {m k : Nat}, Itn W1.heap.size m k → Itn w.heap.size m k := fun h => ⟨by have := h.1; omega, h.2⟩
    have hS := hseq (fun k => O k ∨ k = w.heap.size + 1) W1 hg1 (fun k hk h => h.elim (hO k hk) (fun e => by have := hInp k hk; omega)) (fun k h => h.elim (fun h => by have := hOl k h; omega) (fun h => by omega))
    refine (hS (w.heap.size + 1)
      (fun m pre W => w.heap.size + 2 ≤ m ∧ I m pre W ∧ W.heap[w.heap.size + 1]? = some (.loop (rec .ready none)) ∧ W.heap[w.heap.size]? = some (.deferred (some [])))
      (fun m pre W => ∃ c, Ix m c pre W ∧ W.heap[w.heap.size + 1]? = some (.loop (rec .done (some c))) ∧ W.heap[w.heap.size]? = some (.deferred (some [])))
      ?_ ?_ ?_ ?_).mono ?_
    · rintro m pre A' B' ⟨hm, hi, hl, hk⟩ ht
      have hsz := (Array.getElem?_eq_some_iff.1 hl).1
      exact ⟨hm, hI _ _ _ _ hi (ht.mono fun _ _ h => hitn h), (ht.block _ hsz (fun h => by have := h.1; omega)).trans hl, (ht.block _ (by omega) (fun h => by have := h.1; omega)).trans hk⟩
    · rintro m pre A' B' ⟨c, hi, hl, hk⟩ ht
      have hsz := (Array.getElem?_eq_some_iff.1 hl).1
      exact ⟨c, hIx _ _ _ _ _ hi (ht.mono fun _ _ h => hitn h), (ht.block _ hsz (fun h => by have := h.1; omega)).trans hl, (ht.block _ (by omega) (fun h => by have := h.1; omega)).trans hk⟩
    · -- one round
      rintro m pre x v W0 W hm1 hm20 ⟨hm, hi0, hl, hk⟩ hgW hpre hav
      have hsz0 := (Array.getElem?_eq_some_iff.1 hl).1
      replace hl := (hgW.block _ hsz0).trans hl
      replace hk := (hgW.block _ (by omega)).trans hk
      have hi := hI _ _ _ _ hi0 (Turns.of_grows hgW)
      have hm2 := Nat.le_trans hm20 hgW.size
      have hlt : w.heap.size + 1 < W.heap.size := (Array.getElem?_eq_some_iff.1 hl).1
      have hy := run_yield (P := P) (args := #[v]) hl (by rw [hrec]; exact hps.symm)
      rw [hrec] at hy
      refine ⟨fn, _, assign, body, hy, roundIn_of_wpIn hfn (hassign _ v W _ ⟨_, run_beginRound hl (by rw [hrec]), ?_⟩)⟩
      have hl2 : (W.putObj (w.heap.size + 1) (.loop { rec .ready none with state := .busy })).heap[w.heap.size + 1]? = some (.loop { rec .ready none with state := .busy }) := World.putObj_heap_same hlt
      have hk2 : (W.putObj (w.heap.size + 1) (.loop { rec .ready none with state := .busy })).heap[w.heap.size]? = some (.deferred (some [])) := (World.putObj_heap_other (by omega)).trans hk
      have ht2 : ∀ S : Nat → Prop, S (w.heap.size + 1) → Turns S W (W.putObj (w.heap.size + 1) (.loop { rec .ready none with state := .busy })) := fun S h => turns_putObj W _ _ h
      refine wpIn_mono (hbody _ m pre x v W0 _ hm hm20 hi0 (hI _ _ _ _ hi (ht2 _ ⟨by omega, by omega⟩)) ((Turns.of_grows hgW).trans (ht2 _ ⟨by omega, by omega⟩)) hpre (hA _ _ _ _ _ _ hm hm20 hav (ht2 _ ⟨by omega, by omega⟩))) ?_
      have fin : ∀ (jump : Option Code) (W3 : World), Turns (Rnd O m) (W.putObj (w.heap.size + 1) (.loop { rec .ready none with state := .busy })) W3 →
          (Instr.endRound (w.heap.size + 1) jump).run P W3 = .ok (.bool jump.isNone) (W3.putObj (w.heap.size + 1) (.loop (rec (if jump.isNone then .ready else .done) jump))) ∧
          (W3.putObj (w.heap.size + 1) (.loop (rec (if jump.isNone then .ready else .done) jump))).heap[w.heap.size + 1]? = some (.loop (rec (if jump.isNone then .ready else .done) jump)) ∧
          (W3.putObj (w.heap.size + 1) (.loop (rec (if jump.isNone then .ready else .done) jump))).heap[w.heap.size]? = some (.deferred (some [])) ∧
          Turns (Itn w.heap.size m) W3 (W3.putObj (w.heap.size + 1) (.loop (rec (if jump.isNone then .ready else .done) jump))) ∧
          Turns (Rnd (fun k => O k ∨ k = w.heap.size + 1) m) W (W3.putObj (w.heap.size + 1) (.loop (rec (if jump.isNone then .ready else .done) jump))) := fun jump W3 hk3 => by
        have hno : ∀ k, w.heap.size ≤ k → k < w.heap.size + 2 → ¬ Rnd O m k := fun k h1 h2 h => h.elim (fun h => by have := hOl _ h; omega) (fun h => by omega)
        have hl3 := (hk3.block _ (by simpa using hlt) (hno _ (by omega) (by omega))).trans hl2
        have hd3 := (hk3.block _ (by simp; omega) (hno _ (by omega) (by omega))).trans hk2
        have := run_endRound (P := P) jump hl3
        rw [hrec] at this hl3 ⊢
        refine ⟨this, World.putObj_heap_same (Array.getElem?_eq_some_iff.1 hl3).1, (World.putObj_heap_other (by omega)).trans hd3, turns_putObj W3 _ _ ⟨by omega, by omega⟩, ?_⟩
        rw [hrec] at hk3 ht2
        exact ((ht2 _ (.inl (.inr rfl))).trans (hk3.mono fun k _ h => h.imp .inl id)).trans (turns_putObj W3 _ _ (.inl (.inr rfl)))
      rintro e a3 W3 hp
      cases e with
      | normal =>
        obtain ⟨hk3, hi3⟩ := hp
        obtain ⟨hr, hl4, hk4, ht, ht4⟩ := fin none W3 hk3
        exact ⟨_, _, hr, .inl ⟨rfl, ⟨hm, hI _ _ _ _ hi3 ht, hl4, hk4⟩, ht4⟩⟩
      | ret =>
        obtain ⟨hk3, hi3⟩ := hp
        obtain ⟨hr, hl4, hk4, ht, ht4⟩ := fin (some .ret) W3 hk3
        exact ⟨_, _, hr, .inr ⟨rfl, ⟨.ret, hIx _ _ _ _ _ hi3 ht, hl4, hk4⟩, ht4⟩⟩
      | exit id =>
        obtain ⟨hk3, hi3⟩ := hp
        obtain ⟨hr, hl4, hk4, ht, ht4⟩ := fin (some (.exit id)) W3 hk3
        exact ⟨_, _, hr, .inr ⟨rfl, ⟨.exit id, hIx _ _ _ _ _ hi3 ht, hl4, hk4⟩, ht4⟩⟩
      | goto t =>
        obtain ⟨hk3, hi3⟩ := hp
        obtain ⟨hr, hl4, hk4, ht, ht4⟩ := fin (some (.goto t)) W3 hk3
        exact ⟨_, _, hr, .inr ⟨rfl, ⟨.goto t, hIx _ _ _ _ _ hi3 ht, hl4, hk4⟩, ht4⟩⟩
      | panic ch => exact hp.elim
      | outgrown => exact hp.elim
    · intro m W2 hm hm2 hg2
      exact ⟨by omega, h0 m W2 (by omega) hm2 (Grows.trans hg1 hg2), (hg2.block _ (Array.getElem?_eq_some_iff.1 hL1).1).trans hL1, (hg2.block _ (Array.getElem?_eq_some_iff.1 hK1).1).trans hK1⟩
    · -- behind the iterator
      rintro e W2 ⟨⟨v, rfl⟩, m, hm, hm2, (⟨hm', hi, hl, hk⟩ | ⟨pre, hpre, c, hi, hl, hk⟩)⟩
      · have ht := turns_putObj (S := Itn w.heap.size m) W2 (w.heap.size + 1) (.loop { rec .ready none with state := .done }) ⟨by omega, by omega⟩
        refine ⟨none, _, by have := run_endLoop (P := P) hl (by rw [hrec]; simp); rw [hrec] at this; exact this, hdone _ m _ (by omega) (by simpa using hm2) rfl (hI _ _ _ _ hi (turns_putObj W2 _ _ ⟨by omega, by omega⟩)) ((World.putObj_heap_other (by omega)).trans hk)⟩
      · exact ⟨some c, _, by have := run_endLoop (P := P) hl (by rw [hrec]; simp); rw [hrec] at this; exact this, hstop _ m c pre _ (by omega) (by simpa using hm2) rfl hpre (hIx _ _ _ _ _ hi (turns_putObj W2 _ _ ⟨by omega, by omega⟩)) ((World.putObj_heap_other (by omega)).trans hk)⟩
/-- A box that collects: behind the append, and behind the store. -/
theorem coll_app {W w4 : World} {m bx : Nat} {e : TypeId} {size k : Nat} {v0 : Value} {xs : List Value} {row : Option Nat} (hx : Has W bx [v0]) (hbm : bx < m) (hrow : W.ownsRow m e size v0 k xs) {W1 : World} (h1 : Grows W W1) (hg : W1.grownBy w4 v0.ownBlock) :
    Has w4 bx [v0] ∧ Turns (fun k => m ≤ k) W w4 := by
  have ht : Turns (fun k => m ≤ k) W1 w4 := Turns.of_by hg fun g e _ => own_ge hrow g e
  exact ⟨(hx.later h1).turned ht (by omega), (Turns.of_grows h1).trans ht⟩
theorem coll_set {W w4 : World} {m bx : Nat} {e : TypeId} {size k : Nat} {v0 v' : Value} {xs : List Value} (hx : Has w4 bx [v0]) (hbm : bx < m) (hown : w4.ownsRow m e size v' k xs) (ht : Turns (fun k => m ≤ k) W w4) :
    Has (w4.setCell ⟨bx, 0, none⟩ v') bx [v'] ∧ (w4.setCell ⟨bx, 0, none⟩ v').ownsRow m e size v' k xs ∧ Turns (Rnd (fun k => k = bx) m) W (w4.setCell ⟨bx, 0, none⟩ v') := by
  refine ⟨hx.set_ (k := 0) (by simp) v', own_turned hown (Turns.of_set (S := fun k => k = bx) w4 v' rfl) (fun g hg e => by have := own_ge hown g hg; omega), (ht.mono fun _ _ h => .inr h).trans (Turns.of_set w4 v' (.inl rfl))⟩
theorem turns_then_grows {w W W' : World} {S : Nat → Prop} (hg : Grows w W) (ht : Turns S W W') (hS : ∀ k, S k → w.heap.size ≤ k) : Grows w W' :=
  ((Turns.of_grows (S := fun k => w.heap.size ≤ k) hg).trans (ht.mono fun k _ h => hS k h)).grows fun k hk h => by omega
/-- A function that holds a loop over an iterator, entered. -/
theorem calls_marks {P : Program} {f : FuncId} {fn : Func} {c : Code} {args : Array Value} {w : World} {R : Ending → World → Prop} (hf : P.funcs[f]? = some fn) (hb : fn.body = some c)
    (h : c.wpIn Fence.wide 0 P (bodyPostM Fence.wide 0 P fn R) { tmps := args ++ Array.replicate (fn.ntmps - args.size) undef, defers := [] } w) : Calls P f args w R :=
  (callsIn_wide (n := 0)).1 (callsIn_of_wp_marks hf hb trivial h rfl)
/-- A return past one loop's mark. -/
theorem marks_ret {P : Program} {fn : Func} {R : Ending → World → Prop} {tmps : Array Value} {W : World} {D : Nat} {v : Value} (hK : W.heap[D]? = some (.deferred (some [])))
    (hr : ∀ w, (results fn tmps).run P w = .ok v w) (h : R (.returned v) (W.putObj D (.deferred none))) : bodyPostM Fence.wide 0 P fn R .ret { tmps := tmps, defers := [{ target := .collected D, args := #[] }] } W :=
  ⟨by simp, .inl ⟨_, _, rfl, run_takeDeferred hK, ⟨_, hr _, h⟩⟩⟩
theorem marks_end {P : Program} {fn : Func} {R : Ending → World → Prop} {tmps : Array Value} {W : World} {D : Nat} {v : Value} (hK : W.heap[D]? = some (.deferred (some [])))
    (hr : ∀ w, (results fn tmps).run P w = .ok v w) (h : R (.returned v) (W.putObj D (.deferred none))) : bodyPostM Fence.wide 0 P fn R .normal { tmps := tmps, defers := [{ target := .collected D, args := #[] }] } W :=
  ⟨by simp, .inl ⟨_, _, rfl, run_takeDeferred hK, ⟨_, hr _, h⟩⟩⟩
/-- A call in a walk inside the wide fence, and inside a round of it. -/
theorem call_wide {n : Nat} {P : Program} {f : FuncId} {args : Array Value} {w : World} {R R' : Ending → World → Prop} (h : Calls P f args w R) (hR : ∀ e w', R e w' → R' e w') :
    Fence.wide.fn f ∧ Fence.wide.depth = none ∧ CallsIn Fence.wide n P f args w R' := ⟨trivial, rfl, (callsIn_wide.2 h).mono hR⟩
theorem call_round {n l : Nat} {P : Program} {f : FuncId} {args : Array Value} {w : World} {R R' : Ending → World → Prop} (h : Calls P f args w R) (hR : ∀ e w', R e w' → R' e w') :
    (Fence.wide.inRound l).fn f ∧ (Fence.wide.inRound l).depth = none ∧ CallsIn (Fence.wide.inRound l) n P f args w R' := ⟨trivial, rfl, CallsIn.inRound l ((callsIn_wide.2 h).mono hR)⟩
end Go.Proofs.YtnokloedbckijaaDoor

/-
  The iterator of cut.chunks: it goes through the chunks of its bytes.
-/
namespace Go.Proofs.YtnokloedbckijaaDoor
open Go.RowKit Go.Shelf
set_option linter.unusedVariables false
set_option maxRecDepth 20000
attribute [local go_sem] Oper.semAt_some

theorem byte_size : (Tryd.prog.info? 5).map (·.size) = some 1 := by kernel_rfl
theorem cutA_lies {w : World} {B : Nat} {A : Option Addr} {vs : List Value} (h : Lies w B A vs) {c m : Nat} (hc : vs.length ≤ c) : Lies w B (cutA A c m 1) (vs.drop m) := by
  unfold cutA
  by_cases hcm : c = m
  · rw [if_pos hcm, List.drop_eq_nil_of_le (by omega)]; exact Lies.empty
  · rw [if_neg hcm, Nat.mul_one]; exact h.from_ m
/-- Values lie in blocks that are ok. -/
def LiesIn (ok : Nat → Prop) (w : World) (A : Option Addr) (vs : List Value) : Prop := ∀ (j : Nat) (u : Value), vs[j]? = some u → ∃ ad : Addr, A = some ad ∧ ok ad.block ∧ w.cell? (ad.add j) = some u
section
variable {ok S : Nat → Prop} {w w' : World} {A : Option Addr} {vs : List Value}
theorem LiesIn.lies (h : LiesIn ok w A vs) {B : Nat} (hB : ∀ k, ok k → k < B) : Lies w B A vs := fun j u hu => let ⟨ad, e, ho, hc⟩ := h j u hu; ⟨ad, e, hB _ ho, hc⟩
theorem LiesIn.of_lies {B : Nat} (h : Lies w B A vs) (hB : ∀ k, k < B → ok k) : LiesIn ok w A vs := fun j u hu => let ⟨ad, e, ho, hc⟩ := h j u hu; ⟨ad, e, hB _ ho, hc⟩
theorem LiesIn.turned (h : LiesIn ok w A vs) (ht : Turns S w w') (hS : ∀ k, ok k → ¬ S k) : LiesIn ok w' A vs := fun j u hu => let ⟨ad, e, ho, hc⟩ := h j u hu; ⟨ad, e, ho, ht.cell hc (by rw [add_block]; exact hS _ ho)⟩
theorem LiesIn.later (h : LiesIn ok w A vs) (hg : Grows w w') : LiesIn ok w' A vs := fun j u hu => let ⟨ad, e, ho, hc⟩ := h j u hu; ⟨ad, e, ho, hcell_later hc hg⟩
theorem LiesIn.take (h : LiesIn ok w A vs) (k : Nat) : LiesIn ok w A (vs.take k) := fun j u hu => h j u (by
  have := (List.getElem?_eq_some_iff.1 hu).1
  rw [List.length_take] at this
  rwa [List.getElem?_take_of_lt (by omega)] at hu)
theorem LiesIn.cutA (h : LiesIn ok w A vs) {c m : Nat} (hc : vs.length ≤ c) : LiesIn ok w (cutA A c m 1) (vs.drop m) := by
  unfold Go.Proofs.YtnokloedbckijaaDoor.cutA
  by_cases hcm : c = m
  · rw [if_pos hcm, List.drop_eq_nil_of_le (by omega)]; exact fun j u hu => by simp at hu
  · rw [if_neg hcm, Nat.mul_one]
    intro j u hu
    rw [List.getElem?_drop] at hu
    obtain ⟨ad, rfl, ho, hcl⟩ := h _ u hu
    exact ⟨ad.add m, rfl, by rw [add_block]; exact ho, by rw [add_add_addr]; exact hcl⟩
theorem LiesIn.of_own {base : Nat} {e : TypeId} {n c : Nat} (h : w.ownsRow base e 1 (.slice A n c) n vs) : LiesIn (fun k => base ≤ k ∧ k < w.heap.size) w A vs := fun j u hu => by
  obtain ⟨ad, e1, h1, h2⟩ := Lies.of_own h j u hu
  have hn : 0 < n := by
    have h3 := (List.getElem?_eq_some_iff.1 hu).1
    have h4 := h.1
    omega
  obtain ⟨g, c', e2, _, _, h5, _⟩ := own_has h hn
  subst e1
  injection e2 with e2
  injection e2 with e2
  subst e2
  exact ⟨_, rfl, ⟨h5, h1⟩, h2⟩
end
/-- The value v is the bytes x, in blocks that are ok. -/
def Chu (ok : Nat → Prop) (m : Nat) (W0 W : World) (x : List UInt8) (v : Value) : Prop := ∃ A c, v = .slice A x.length c ∧ x.length ≤ c ∧ LiesIn ok W A (x.map bv)
/-- How long a slice is. -/
def slen : Value → Nat
  | .slice _ n _ => n
  | _ => 0
/-- What it reads. -/
def ChInp (bb bp : Nat) (ok : Nat → Prop) (k : Nat) : Prop := k = bb ∨ k = bp ∨ k = 0 ∨ ok k
theorem lies_turned {S : Nat → Prop} {w w' : World} {B : Nat} {A : Option Addr} {vs : List Value} (h : Lies w B A vs) (ht : Turns S w w') (hS : ∀ k, k < B → ¬ S k) : Lies w' B A vs := fun j u hu => by
  obtain ⟨ad, e, hlt, hc⟩ := h j u hu
  exact ⟨ad, e, hlt, ht.cell hc (by rw [add_block]; exact hS _ hlt)⟩

set_option maxRecDepth 20000 in
set_option maxHeartbeats 2000000 in
theorem chunks_at (p : Prm) (hp : p.Ok) (bb bp : Nat) (ok : Nat → Prop) (A : Option Addr) (n c : Nat) (bs : List UInt8) (O : Nat → Prop) (W : World) (hbb : Has W bb [.slice A n c]) (hbp : Has W bp [.int .i64 p.mn, .int .i64 p.av, .int .i64 p.mx])
    (hl : bs.length = n) (hnc : n ≤ c) (hr : LiesIn ok W A (bs.map bv)) (hB : ∀ k, ok k → k < W.heap.size) (hs : Starts W) (hn : n ≤ 1000000) (hO : ∀ k, ChInp bb bp ok k → ¬ O k) (hOl : ∀ k, O k → k < W.heap.size) :
    SeqAt Tryd.prog 71 #[.pointer (some ⟨bp, 0, none⟩), .pointer (some ⟨bb, 0, none⟩)] (Chu ok) (chunksOf p bs) O W := by
  intro l J Jx hJ hJx hY h0
  have P0 := hbp.cell (k := 0) rfl
  have P1 := hbp.cell (k := 1) rfl
  have P2 := hbp.cell (k := 2) rfl
  refine callsIn_of_wp Tryd.func71 rfl trivial ?_ rfl
  simp only [Tryd.ntmps71, List.size_toArray, List.length_cons, List.length_nil, Nat.reduceAdd, Nat.reduceSub, Array.replicate_succ, Array.replicate_zero, List.push_toArray, List.append_toArray, List.nil_append, List.cons_append]
  have M0 := may_any p.mn p.av p.mx W
  rw [may_ok hp] at M0
  gi_wp2_with fail
  refine call_wide M0 ?_
  rintro e w1 ⟨rfl, hg1⟩
  have P0' := hcell_later P0 hg1
  have P1' := hcell_later P1 hg1
  have P2' := hcell_later P2 hg1
  clear P0 P1 P2
  gi_wp2_with fail
  refine call_wide (newknife_any p w1 hp (hs.later hg1)) ?_
  rintro e w2 ⟨kb, rb, rfl, hkb, hrb, K2, hg2⟩
  have hg := Grows.trans hg1 hg2
  have Q0 := (hbb.later hg).cell (k := 0) rfl
  have hm1 : W.heap.size ≤ w2.heap.size := hg.size
  have hkb2 := K2.has.lt
  have hrb2 := K2.roll.lt
  have hkb1 : W.heap.size ≤ kb := Nat.le_trans hg1.size hkb
  have hrb1 : W.heap.size ≤ rb := Nat.le_trans hg1.size hrb
  have hJ0 := h0 w2.heap.size w2 hm1 (Nat.le_refl _) hg
  have hs2 := hs.later hg
  have hr2 : LiesIn ok w2 A (bs.map bv) := hr.later hg
  have hsz := hs.pos
  obtain ⟨m, hm⟩ : ∃ m, m = w2.heap.size := ⟨_, rfl⟩
  rw [← hm] at hm1 hkb2 hrb2 hJ0
  have hm2 : m ≤ w2.heap.size := by omega
  clear hm hkb hrb hg2 hg1
  gi_wp2_with fail
  gi_loopw [5] (fun rv wr => ∃ (A' : Option Addr) (n' c' : Nat) (rest : List UInt8) (pre : List (List UInt8)), rv = .slice A' n' c' ∧ rest.length = n' ∧ n' ≤ c' ∧ n' ≤ 1000000 ∧ LiesIn ok wr A' (rest.map bv) ∧
    Hid (chunksOf p bs = pre ++ chunksOf p rest) ∧ m ≤ wr.heap.size ∧ (rest ≠ [] → Knife wr kb rb p []) ∧ Starts wr ∧ J m pre wr) (fun rv _ => slen rv)
  case atStart => exact ⟨A, n, c, bs, [], rfl, hl, hnc, hn, hr2, rfl, hm2, fun _ => K2, hs2, hJ0⟩
  case round =>
    obtain ⟨A', n', c', rest, pre, rfl, hl', hnc', hn', hr', HC, hmw, hK, hsw, hJw⟩ := hrel
    by_cases hrest : rest = []
    · subst hrest
      obtain rfl : n' = 0 := by simpa using hl'.symm
      gi_wp2
      go_end0
      have HC' := HC.out
      rw [chunksOf_nil, List.append_nil] at HC'
      exact ⟨⟨_, rfl⟩, m, hm1, hmw, .inl (by rw [HC']; exact hJw)⟩
    · have hpos : 0 < n' := by rw [← hl']; exact List.length_pos_iff.2 hrest
      have d1 : ((n' : Int) > 0) := by omega
      have NX := next_any kb rb W.heap.size p [] A' n' c' rest wr hp (hK hrest) hsw hl' (hr'.lies hB) (by omega) (by omega) (by simp; omega)
      have hk1 := scan_pos p [] hrest
      have hk2 := scan_le p rest []
      have HCC := chunksOf_cons p hrest
      have HB : Hid ((scan p [] rest).2 = false → rest.drop (scan p [] rest).1 = []) := fun h => by rw [scan_false p rest [] h, List.drop_length]
      have HB2 : Hid ((scan p [] rest).2 = true → behind p [] rest = []) := fun h => by unfold behind; rw [if_pos h]
      generalize (scan p [] rest).1 = k at *
      generalize (scan p [] rest).2 = cut at *
      have NX := Lib.hid NX
      have HCC := Lib.hid HCC
      have HLL := Lib.hid hl'
      have hkn : k ≤ n' := by rw [← hl']; exact hk2
      clear hk2 hl' hK
      gi_wp2_with fail
      refine call_wide NX.out ?_
      rintro e w3 ⟨rfl, K3, T3⟩
      have hJ3 := hJ m pre wr w3 hJw (T3.mono fun j _ h => by rcases h with rfl | rfl <;> exact ⟨by omega, by omega⟩)
      have hm3 : m ≤ w3.heap.size := Nat.le_trans hmw T3.size
      have hr3 := hr'.turned T3 (fun j hj h => by have := hB j hj; rcases h with rfl | rfl <;> omega)
      have hs3 := hsw.turned T3 (fun h => by rcases h with h | h <;> omega)
      have hpre : (pre ++ [rest.take k]) <+: chunksOf p bs := ⟨chunksOf p (rest.drop k), by rw [HC.out, HCC.out]; simp⟩
      obtain ⟨fn, tmps, assign, body, hy, hR⟩ := hY m pre (rest.take k) (.slice A' k c') w3 w3 hm1 hm3 hJ3 (Grows.refl _) hpre ⟨A', c', by rw [List.length_take, HLL.out, Nat.min_eq_left hkn], by rw [List.length_take]; omega, by rw [List.map_take]; exact hr3.take k⟩
      have hc1 := fun u => run_cutK_to (P := Tryd.prog) (t := 22) (e := 5) Tryd.underlying22 byte_size A' n' c' k .i64 (by omega) u
      have hc2 := fun u => run_cutK_from (P := Tryd.prog) (t := 22) (e := 5) Tryd.underlying22 byte_size A' n' c' k .i64 hkn hnc' u
      gi_wp2_with fail
      refine ⟨rfl, hR.mono ?_⟩
      clear hy hR
      rintro e W4 (⟨rfl, hJ4, T4⟩ | ⟨rfl, hJx4, T4⟩)
      · have hno : ∀ j, j < m → ¬ O j → ¬ Rnd O m j := fun j h1 h2 h => h.elim h2 (fun h => by omega)
        have hr4 := hr3.turned T4 (fun j hj => hno j (by have := hB j hj; omega) (hO j (.inr (.inr (.inr hj)))))
        have hs4 := hs3.turned T4 (hno _ (by omega) (hO _ (.inr (.inr (.inl rfl)))))
        have hK4 : rest.drop k ≠ [] → Knife W4 kb rb p [] := fun hne => by
          have h1 : cut = true := by
            cases hcc : cut with
            | true => rfl
            | false => exact absurd (HB.out hcc) hne
          have := K3.turned T4 (hno _ hkb2 (fun h => by have := hOl _ h; omega)) (hno _ hrb2 (fun h => by have := hOl _ h; omega))
          rwa [HB2.out h1] at this
        clear hc1
        gi_wp2_with fail
        go_roundw
        case rel => exact ⟨cutA A' c' k 1, n' - k, c' - k, rest.drop k, pre ++ [rest.take k], rfl, by rw [List.length_drop, HLL.out], by omega, by omega, by rw [List.map_drop]; exact hr4.cutA (by rw [List.length_map, HLL.out]; exact hnc'), by show _ = _; rw [HC.out, HCC.out]; simp, Nat.le_trans hm3 T4.size, hK4, hs4, hJ4⟩
        case measure => simp only [slen]; omega
      · gi_wp2_with fail
        refine bodyPost_ret (results_none rfl _ _ _) rfl ?_
        exact ⟨⟨_, rfl⟩, m, hm1, Nat.le_trans hm3 T4.size, .inr ⟨_, hpre, hJx4⟩⟩

theorem chunks_seq (p : Prm) (hp : p.Ok) (bb bp : Nat) (ok : Nat → Prop) (A : Option Addr) (n c : Nat) (bs : List UInt8) (w : World) (hbb : Has w bb [.slice A n c]) (hbp : Has w bp [.int .i64 p.mn, .int .i64 p.av, .int .i64 p.mx])
    (hl : bs.length = n) (hnc : n ≤ c) (hr : LiesIn ok w A (bs.map bv)) (hB : ∀ k, ok k → k < w.heap.size) (hs : Starts w) (hn : n ≤ 1000000) :
    SeqOf Tryd.prog 71 #[.pointer (some ⟨bp, 0, none⟩), .pointer (some ⟨bb, 0, none⟩)] (Chu ok) (chunksOf p bs) (ChInp bb bp ok) w := fun O W hg hO hOl =>
  chunks_at p hp bb bp ok A n c bs O W (hbb.later hg) (hbp.later hg) hl hnc (hr.later hg) (fun k h => Nat.lt_of_lt_of_le (hB k h) hg.size) (hs.later hg) hn hO hOl

theorem chunks_any (p : Prm) (A : Option Addr) (n c : Nat) (w : World) :
    Calls Tryd.prog 48 #[.slice A n c, pv p] w fun e w' => ∃ bb bp, e = .returned (.func (.func 71) #[] #[.pointer (some ⟨bp, 0, none⟩), .pointer (some ⟨bb, 0, none⟩)]) ∧ w.heap.size ≤ bb ∧ w.heap.size ≤ bp ∧ Has w' bb [.slice A n c] ∧
      Has w' bp [.int .i64 p.mn, .int .i64 p.av, .int .i64 p.mx] ∧ Grows w w' := by
  have h1 := Has.new w 22 [.slice A n c]
  have g1 := grows_alloc w (.cells [.slice A n c].toArray 22)
  have h2 := Has.new (w.alloc (.cells [.slice A n c].toArray 22)) 24 [.int .i64 (p.mn : Int), .int .i64 (p.av : Int), .int .i64 (p.mx : Int)]
  have g2 := grows_alloc (w.alloc (.cells [.slice A n c].toArray 22)) (.cells [.int .i64 (p.mn : Int), .int .i64 (p.av : Int), .int .i64 (p.mx : Int)].toArray 24)
  have h3 := h1.later g2
  have g3 := Grows.trans g1 g2
  rw [World.size_alloc] at h2
  unfold pv pz
  go_enter Tryd.func48, Tryd.ntmps48
  go_wp2
  go_ret
  exact ⟨_, _, rfl, Nat.le_refl _, by omega, h3, h2, g3⟩
end Go.Proofs.YtnokloedbckijaaDoor

/-
  Contract of cut.Sizes: a loop over the chunks that collects their sizes.
-/
namespace Go.Proofs.YtnokloedbckijaaDoor
open Go.RowKit Go.Shelf
set_option linter.unusedVariables false
set_option maxRecDepth 20000
attribute [local go_sem] Oper.semAt_some

theorem int_info : (Tryd.prog.info? 3).map (fun i => (i.zero, i.size, i.bytes)) = some (some (.int .i64 0), 1, 8) := by kernel_rfl
def lenV (x : List UInt8) : Value := .int .i64 (x.length : Int)

set_option maxRecDepth 20000 in
set_option maxHeartbeats 2000000 in
theorem sizes_any (p : Prm) (hp : p.Ok) (A : Option Addr) (n c : Nat) (bs : List UInt8) (w : World) (hl : bs.length = n) (hnc : n ≤ c) (hr : Lies w w.heap.size A (bs.map bv)) (hs : Starts w) (hn : n ≤ 1000000) :
    Calls Tryd.prog 15 #[.slice A n c, pv p] w fun e w' => ∃ v, e = .returned (.tuple #[v, .int .i64 0]) ∧ w'.ownsRow w.heap.size 3 1 v (chunksOf p bs).length ((chunksOf p bs).map lenV) ∧ Grows w w' := by
  have hpz : pv p = .agg #[.int .i64 p.mn, .int .i64 p.av, .int .i64 p.mx] := rfl
  have M0 : Hid (∀ u, Calls Tryd.prog 47 #[.agg #[.int .i64 p.mn, .int .i64 p.av, .int .i64 p.mx]] u fun e w' => e = .returned (.bool true) ∧ Grows u w') := fun u => by
    have := may_any p.mn p.av p.mx u
    rwa [may_ok hp] at this
  have hb0 := Has.new w 24 [.int .i64 (p.mn : Int), .int .i64 (p.av : Int), .int .i64 (p.mx : Int)]
  have hg0 := grows_alloc w (.cells [.int .i64 (p.mn : Int), .int .i64 (p.av : Int), .int .i64 (p.mx : Int)].toArray 24)
  refine calls_marks Tryd.func15 rfl ?_
  simp only [Tryd.ntmps15, List.size_toArray, List.length_cons, List.length_nil, Nat.reduceAdd, Nat.reduceSub, Array.replicate_succ, Array.replicate_zero, List.push_toArray, List.append_toArray, List.nil_append, List.cons_append]
  rw [hpz]
  gi_wp2_with fail
  refine call_wide (M0.out _) ?_
  rintro e w1 ⟨rfl, hg1⟩
  have hb1 := hb0.later hg1
  have P0 := hb1.cell (k := 0) rfl
  have P1 := hb1.cell (k := 1) rfl
  have P2 := hb1.cell (k := 2) rfl
  have hgw1 := Grows.trans hg0 hg1
  have hx1 := Has.new w1 33 [.slice none 0 0]
  have hgx := grows_alloc w1 (.cells [.slice none 0 0].toArray 33)
  have hlt1 := hb1.lt
  clear hb0 hg0 hg1
  gi_wp2_with fail
  refine call_wide (chunks_any p A n c _) ?_
  rintro e w3 ⟨bb, bp, rfl, hbb, hbp, hB, hP, hg3⟩
  have hx3 := hx1.later hg3
  have hgw3 := Grows.trans hgw1 (Grows.trans hgx hg3)
  have hb0s : w.heap.size ≤ w1.heap.size := hgw1.size
  have hxl := hx3.lt
  have hseq := chunks_seq p hp bb bp (fun k => k < w.heap.size) A n c bs w3 hB hP hl hnc ((LiesIn.of_lies hr (fun _ h => h)).later hgw3) (fun k h => Nat.lt_of_lt_of_le h hgw3.size) (hs.later hgw3) hn
  rw [World.size_alloc] at hbb hbp
  generalize hx : w1.heap.size = bx at *
  have hbs : Starts w := hs
  have hz := hs.pos
  have hBl := hB.lt
  have hPl := hP.lt
  clear hgx hg3 hx1 hx
  gi_wp2_with fail
  refine wp_range (gf := 71) (lb := #[.pointer (some ⟨bp, 0, none⟩), .pointer (some ⟨bb, 0, none⟩)]) rfl (enters_of Tryd.func71 (by kernel_rfl) rfl) rfl hseq ?gInp (fun k => k = bx) ?gO (fun k h => by rw [h]; exact hxl)
    (fun m pre W => ∃ v, Has W bx [v] ∧ W.ownsRow m 3 1 v pre.length (pre.map lenV) ∧ Grows w W) (fun _ _ _ _ => False) ?gI (fun _ _ _ _ _ h _ => h) ?gh0
    (fun v => { tmps := #[.slice A n c, .agg #[.int .i64 p.mn, .int .i64 p.av, .int .i64 p.mx], undef, .pointer (some ⟨w.heap.size, 0, none⟩), .slice none 0 0, .int .i64 0, .pointer (some ⟨bx, 0, none⟩), v, .agg #[.int .i64 p.mn, .int .i64 p.av, .int .i64 p.mx], .bool true, .bool false, .slice A n c,
      .agg #[.int .i64 p.mn, .int .i64 p.av, .int .i64 p.mx], .func (.func 71) #[] #[.pointer (some ⟨bp, 0, none⟩), .pointer (some ⟨bb, 0, none⟩)], v, undef, undef, undef, undef, undef, undef], defers := [] })
    ?gassign ?gA ?gbody ?gdone (fun _ _ _ _ _ _ _ _ _ h _ => h.elim)
  case gInp => rintro k (rfl | rfl | rfl | h) <;> omega
  case gO => rintro k (rfl | rfl | rfl | h) h' <;> omega
  case gI =>
    rintro m pre A' B' ⟨v, h1, h2, h3⟩ ht
    exact ⟨v, h1.turned ht (fun h => by have := h.1; omega), own_turned h2 ht (fun g hg h => by have := own_ge h2 g hg; have := h.2; omega), turns_then_grows h3 ht (fun k h => Nat.le_trans hgw3.size h.1)⟩
  case gh0 => exact fun m W1 _ _ hg => ⟨_, hx3.later hg, World.ownsRow_nil _ _ _ _, Grows.trans hgw3 hg⟩
  case gassign =>
    intro l v W K hK
    gi_wp2
    exact hK
  case gA =>
    rintro m W0 x v A' B' _ _ ⟨Ax, cx, rfl, h1, h2⟩ ht
    exact ⟨Ax, cx, rfl, h1, h2.turned ht (fun k hk h => by have := h.1; have := hgw3.size; omega)⟩
  case gbody =>
    rintro l m pre x v W0 W hm hmW0 _ ⟨v0, hx, hrow, hgw⟩ hT0 hpre ⟨Ax, cx, rfl, hxc, hLx⟩
    have hmW := Nat.le_trans hmW0 hT0.size
    clear hT0
    have hlen : pre.length + 1 ≤ 1000000 := by
      have h1 := hpre.length_le
      have h2 := chunks_len p bs
      rw [List.length_append, List.length_singleton] at h1
      omega
    have hc := hx.cell (k := 0) rfl
    obtain ⟨i0, hi0, hz0, hz1, hz2⟩ := info_parts int_info
    have HC := fun (w4 : World) (h : (W.alloc (.cells #[.int .i64 (x.length : Int)] 3)).grownBy w4 v0.ownBlock) => coll_app (row := none) hx (by omega) hrow (grows_alloc W _) h
    have HX : Hid (pre.map lenV ++ [.int .i64 (x.length : Int)] = (pre ++ [x]).map lenV) := by show _ = _; simp [lenV]
    have HLN : Hid ((pre ++ [x]).length = pre.length + 1) := by show _ = _; simp
    gi_wp2_with (gi_at_builtin; go_loud (refine wpListIn_append_own_at _ rfl (.tmp 15) (.tmp 18) _ rfl m 3 i0 _ 1 8 Tryd.underlying33 hi0 hz0 hz1 hz2 rfl (by decide) v0 pre.length _ rfl (hrow.alloc _) ⟨W.heap.size, 0, none⟩ 1 1 [.int .i64 (x.length : Int)] rfl rfl (cell_one_new _ _ _) (by simp [Value.oneCell']) (by unfold maxLen; omega) (by omega) (by rw [World.size_alloc]; omega) ?_; intro v' w4 hown' hg' hnil' hat'; obtain ⟨hx4, ht4⟩ := HC w4 hg'; have hc4 := hx4.cell (k := 0) rfl; have hf4 := hx4.free 0; obtain ⟨hx5, ho5, ht5⟩ := coll_set hx4 (by omega) hown' ht4; obtain ⟨A5, c5, rfl, _⟩ := own_form hown'))
    exact ⟨ht5, _, hx5, by rw [HLN.out, ← HX.out]; exact ho5, turns_then_grows hgw ht5 (fun k h => h.elim (fun h => by omega) (fun h => by have := hgw3.size; omega))⟩
  case gdone =>
    rintro D m W hm hmW rfl ⟨v, hx, hrow, hgw⟩ hD
    have hc := hx.cell (k := 0) rfl
    gi_wp2
    have ht := turns_putObj (S := fun k => k = w3.heap.size) W w3.heap.size (.deferred none) rfl
    refine marks_ret hD (fun u => results_tmp2 rfl _ _ _) ⟨v, rfl, ?_, turns_then_grows hgw ht (fun k h => by rw [h]; exact hgw3.size)⟩
    have := own_turned hrow ht (fun g hg h => by have := own_ge hrow g hg; omega)
    exact ⟨this.1, this.2.imp id fun ⟨g, cap, cur, h1, h2, h3⟩ => ⟨g, cap, cur, h1, by have := hgw3.size; omega, h3⟩⟩
end Go.Proofs.YtnokloedbckijaaDoor

/-
  Contract of bytes.Clone.
-/
namespace Go.Proofs.YtnokloedbckijaaDoor
open Go.RowKit
set_option linter.unusedVariables false

set_option maxHeartbeats 400000 in
theorem bclone_any (A : Option Addr) (n c : Nat) (l : List UInt8) (w : World) (hl : l.length = n) (hr : Lies w w.heap.size A (l.map bv)) (hn : n ≤ 1000000000000) :
    Calls Tryd.prog 79 #[.slice A n c] w fun e w' => ∃ v, e = .returned v ∧ w'.ownsRow w.heap.size 5 1 v n (l.map bv) ∧ Grows w w' := by
  obtain ⟨i0, hi0, hz0, hz1, hz2⟩ := info_parts byte_info
  cases A with
  | none =>
    have h0 := hr.none_empty
    have h1 : l = [] := by simpa using h0
    subst h1
    obtain rfl : n = 0 := by simpa using hl.symm
    have hq : ∀ u : World, (binOp .eql 22 (.slice none 0 c) (.slice none 0 0)).run Tryd.prog u = .ok (.bool true) u := fun u => by kernel_rfl
    go_enter Tryd.func79, Tryd.ntmps79
    go_wp2
    go_ret
    exact ⟨_, rfl, World.ownsRow_nil _ _ _ _, Grows.refl _⟩
  | some ad =>
    have hrow : (w.alloc (.cells #[] 5)).ownsRow w.heap.size 5 1 (.slice (some ⟨w.heap.size, 0, none⟩) 0 0) 0 [] :=
      ⟨rfl, .inr ⟨w.heap.size, 0, #[], rfl, Nat.le_refl _, heap_alloc_new w _, by omega, by unfold maxLen; omega, rfl, rfl⟩⟩
    have hga := grows_alloc w (.cells #[] 5)
    have hrl := hr.later hga
    have hq : ∀ u : World, (binOp .eql 22 (.slice (some ad) n c) (.slice none 0 0)).run Tryd.prog u = .ok (.bool false) u := fun u => by kernel_rfl
    go_enter Tryd.func79, Tryd.ntmps79
    go_wp2_with (at_builtin; refine wpList_append_src _ rfl (.tmp 5) (.tmp 6) _ rfl w.heap.size 5 i0 _ 1 Tryd.underlying22 hi0 hz0 hz1 hz2 rfl _ 0 _ rfl hrow _ _ n c (l.map bv) rfl (by rw [List.length_map]; exact hl) hrl (bv_one l) (by unfold maxLen; omega) (by omega) (by rw [World.size_alloc]; omega) ?_; intro v' w' hown' hg' hat')
    have hb2 : Grows w w' := Below.grown hga hg' (by rw [World.size_alloc]; omega) (own_ge hrow)
    rw [Nat.zero_add, List.nil_append] at hown'
    go_ret
    exact ⟨_, rfl, hown', hb2⟩
end Go.Proofs.YtnokloedbckijaaDoor

/-
  The iterator of cut.All: a copy of each chunk; cut.All.
-/
namespace Go.Proofs.YtnokloedbckijaaDoor
open Go.RowKit Go.Shelf
set_option linter.unusedVariables false
set_option maxRecDepth 20000
attribute [local go_sem] Oper.semAt_some

/-- The value v is the bytes x, in a row that is new behind W0. -/
def Cpy (m : Nat) (W0 W : World) (x : List UInt8) (v : Value) : Prop := W.ownsRow W0.heap.size 5 1 v x.length (x.map bv)

set_option maxRecDepth 20000 in
set_option maxHeartbeats 2000000 in
theorem all_at (p : Prm) (hp : p.Ok) (bb bp : Nat) (ok : Nat → Prop) (A : Option Addr) (n c : Nat) (bs : List UInt8) (O : Nat → Prop) (W : World) (hbb : Has W bb [.slice A n c]) (hbp : Has W bp [.int .i64 p.mn, .int .i64 p.av, .int .i64 p.mx])
    (hl : bs.length = n) (hnc : n ≤ c) (hr : LiesIn ok W A (bs.map bv)) (hB : ∀ k, ok k → k < W.heap.size) (hs : Starts W) (hn : n ≤ 1000000) (hO : ∀ k, ChInp bb bp ok k → ¬ O k) (hOl : ∀ k, O k → k < W.heap.size) :
    SeqAt Tryd.prog 80 #[.pointer (some ⟨bb, 0, none⟩), .pointer (some ⟨bp, 0, none⟩)] Cpy (chunksOf p bs) O W := by
  intro l J Jx hJ hJx hY h0
  have P0 := hbp.cell (k := 0) rfl
  have P1 := hbp.cell (k := 1) rfl
  have P2 := hbp.cell (k := 2) rfl
  have Q0 := hbb.cell (k := 0) rfl
  have hz := hs.pos
  have hy0 := Has.new W 107 [.func (.yield l) #[] #[]]
  have hg0 := grows_alloc W (.cells [.func (.yield l) #[] #[]].toArray 107)
  have hsw : (W.alloc (.cells [.func (.yield l) #[] #[]].toArray 107)).heap.size = W.heap.size + 1 := by simp
  have P0' := hcell_later P0 hg0
  have P1' := hcell_later P1 hg0
  have P2' := hcell_later P2 hg0
  have Q0' := hcell_later Q0 hg0
  have CH := Lib.hid (show ∀ u, Calls Tryd.prog 48 #[.slice A n c, .agg #[.int .i64 p.mn, .int .i64 p.av, .int .i64 p.mx]] u fun e w' => ∃ bb bp, e = .returned (.func (.func 71) #[] #[.pointer (some ⟨bp, 0, none⟩), .pointer (some ⟨bb, 0, none⟩)]) ∧ u.heap.size ≤ bb ∧ u.heap.size ≤ bp ∧ Has w' bb [.slice A n c] ∧
      Has w' bp [.int .i64 p.mn, .int .i64 p.av, .int .i64 p.mx] ∧ Grows u w' from fun u => chunks_any p A n c u)
  refine callsIn_of_wp_marks Tryd.func80 rfl trivial ?_ rfl
  simp only [Tryd.ntmps80, List.size_toArray, List.length_cons, List.length_nil, Nat.reduceAdd, Nat.reduceSub, Array.replicate_succ, Array.replicate_zero, List.push_toArray, List.append_toArray, List.nil_append, List.cons_append]
  gi_wp2_with fail
  refine call_wide (CH.out _) ?_
  rintro e w3 ⟨b1, p1, rfl, hb1, hp1, hB1, hP1, hg3⟩
  rw [hsw] at hb1 hp1
  have hy3 := hy0.later hg3
  have hgw3 := Grows.trans hg0 hg3
  have hseq := chunks_seq p hp b1 p1 ok A n c bs w3 hB1 hP1 hl hnc (hr.later hgw3) (fun k h => Nat.lt_of_lt_of_le (hB k h) hgw3.size) (hs.later hgw3) hn
  obtain ⟨by_, hby⟩ : ∃ k, k = W.heap.size := ⟨_, rfl⟩
  rw [← hby] at hy3
  have HBY := Lib.hid hby
  have hBl := hB1.lt
  have hPl := hP1.lt
  have hyl := hy3.lt
  have hsz3 := hgw3.size
  clear hg3 hg0 hy0 hsw P0 P1 P2 Q0 P0' P1' P2' Q0'
  gi_wp2_with fail
  rw [← hby]
  have hOy : ¬ O by_ := fun h => by have := hOl _ h; omega
  clear hby
  refine wp_range (gf := 71) (lb := #[.pointer (some ⟨p1, 0, none⟩), .pointer (some ⟨b1, 0, none⟩)]) rfl (enters_of Tryd.func71 (by kernel_rfl) rfl) rfl hseq ?gInp O ?gO (fun k h => by have := hOl k h; omega)
    (fun m pre W' => J m pre W' ∧ Has W' by_ [.func (.yield l) #[] #[]]) (fun m c pre W' => c = .ret ∧ Jx m pre W') ?gI ?gIx ?gh0
    (fun v => { tmps := #[.func (.yield l) #[] #[], .pointer (some ⟨bb, 0, none⟩), .pointer (some ⟨bp, 0, none⟩), .pointer (some ⟨by_, 0, none⟩), v, .slice A n c, .agg #[.int .i64 p.mn, .int .i64 p.av, .int .i64 p.mx],
      .func (.func 71) #[] #[.pointer (some ⟨p1, 0, none⟩), .pointer (some ⟨b1, 0, none⟩)], v, undef, undef, undef, undef, undef], defers := [] })
    ?gassign ?gA ?gbody ?gdone ?gstop
  case gInp =>
    rintro k (rfl | rfl | rfl | h)
    · omega
    · omega
    · omega
    · have := hB k h; omega
  case gO =>
    rintro k (rfl | rfl | h) h'
    · have := hOl _ h'; omega
    · have := hOl _ h'; omega
    · exact hO k (.inr (.inr h)) h'
  case gI =>
    rintro m pre A' B' ⟨h1, h2⟩ ht
    exact ⟨hJ _ _ _ _ h1 (ht.mono fun k _ h => ⟨Nat.le_trans hsz3 h.1, h.2⟩), h2.turned ht (fun h => by have := h.1; omega)⟩
  case gIx =>
    rintro m c pre A' B' ⟨h1, h2⟩ ht
    exact ⟨h1, hJx _ _ _ _ h2 (ht.mono fun k _ h => ⟨Nat.le_trans hsz3 h.1, h.2⟩)⟩
  case gh0 => exact fun m W1 h1 h2 hg => ⟨h0 m W1 (Nat.le_trans hsz3 h1) h2 (Grows.trans hgw3 hg), hy3.later hg⟩
  case gassign =>
    intro l v W K hK
    gi_wp2
    exact hK
  case gA =>
    rintro m W0 x v A' B' _ _ ⟨Ax, cx, rfl, h1, h2⟩ ht
    exact ⟨Ax, cx, rfl, h1, h2.turned ht (fun k hk h => by have := h.1; have := hB k hk; omega)⟩
  case gdone =>
    rintro D m W4 hm hmW rfl ⟨hj, hy⟩ hD
    gi_wp2
    refine marks_end hD (fun u => results_none rfl _ _ _) ⟨⟨_, rfl⟩, m, by omega, by simpa using hmW, .inl (hJ _ _ _ _ hj (turns_putObj W4 _ _ ⟨by omega, by omega⟩))⟩
  case gstop =>
    rintro D m c pre W4 hm hmW rfl hpre ⟨rfl, hj⟩ hD
    gi_wp2
    refine marks_ret hD (fun u => results_none rfl _ _ _) ⟨⟨_, rfl⟩, m, by omega, by simpa using hmW, .inr ⟨pre, hpre, hJx _ _ _ _ hj (turns_putObj W4 _ _ ⟨by omega, by omega⟩)⟩⟩
  case gbody =>
    rintro l' m pre x v W0 W4 hm hmW0 _ ⟨hj, hy⟩ hT0 hpre ⟨Ax, cx, rfl, hxc, hLx⟩
    have hmW := Nat.le_trans hmW0 hT0.size
    have hlen : x.length ≤ 1000000 := by
      have h1 := chunks_flat p bs
      obtain ⟨t, ht⟩ := hpre
      have := congrArg List.length h1
      rw [← ht] at this
      simp at this
      omega
    have hyd := hy.drew
    have hyc := hyd.cell (k := 0) rfl
    have hgd : Grows W4 W4.drew := (Grows.refl W4).drew
    have CL := bclone_any Ax x.length cx x W4.drew rfl ((hLx.lies (B := W4.heap.size) (fun k h => by have := hB k h; omega)).later hgd) (by omega)
    have mixed : Tryd.prog.follows .mixedOrders = true := by kernel_rfl
    have YY : Hid (∀ v5 w5, Grows W4.drew w5 → w5.ownsRow W4.drew.heap.size 5 1 v5 x.length (x.map bv) → YieldAt Fence.wide 0 Tryd.prog l #[v5] w5 fun e W' => ∃ q : Bool, e = .returned (.bool q) ∧ Turns (Rnd O m) w5 W' ∧ ((q = true ∧ J m (pre ++ [x]) W') ∨ (q = false ∧ Jx m (pre ++ [x]) W'))) := fun v5 w5 hg5 ho5 =>
      (hY m pre x v5 W4 w5 (by omega) hmW hj (Grows.trans hgd hg5) hpre ho5).mono (fun e W' h => by
        rcases h with ⟨rfl, h1, h2⟩ | ⟨rfl, h1, h2⟩
        · exact ⟨true, rfl, h2, .inl ⟨rfl, h1⟩⟩
        · exact ⟨false, rfl, h2, .inr ⟨rfl, h1⟩⟩)
    gi_wp2_with fail
    gi_region_with_o (first | (refine call_round CL ?_; clear CL; rintro e w5 ⟨v5, rfl, ho5, hg5⟩; have hyc5 := hcell_later hyc hg5; obtain ⟨fn, tmps, assign, body, hyy, hR⟩ := YY.out v5 w5 hg5 ho5) | (refine ⟨rfl, RoundIn.mono (F := Fence.wide.inRound l') hR ?_⟩; clear hR hyy; rintro e W6 ⟨q, rfl, hT6, h6⟩))
    all_goals (
      have hT7 := (Turns.of_grows (S := Rnd O m) (Grows.trans hgd hg5)).trans hT6
      have hy7 := hy.turned hT7 (fun h => h.elim hOy (fun h => by omega))
      rcases h6 with ⟨rfl, hj7⟩ | ⟨rfl, hj7⟩
      · gi_wp2
        exact ⟨hT7, hj7, hy7⟩
      · gi_wp2
        exact ⟨hT7, rfl, hj7⟩)

theorem all_seq (p : Prm) (hp : p.Ok) (bb bp : Nat) (ok : Nat → Prop) (A : Option Addr) (n c : Nat) (bs : List UInt8) (w : World) (hbb : Has w bb [.slice A n c]) (hbp : Has w bp [.int .i64 p.mn, .int .i64 p.av, .int .i64 p.mx])
    (hl : bs.length = n) (hnc : n ≤ c) (hr : LiesIn ok w A (bs.map bv)) (hB : ∀ k, ok k → k < w.heap.size) (hs : Starts w) (hn : n ≤ 1000000) :
    SeqOf Tryd.prog 80 #[.pointer (some ⟨bb, 0, none⟩), .pointer (some ⟨bp, 0, none⟩)] Cpy (chunksOf p bs) (ChInp bb bp ok) w := fun O W hg hO hOl =>
  all_at p hp bb bp ok A n c bs O W (hbb.later hg) (hbp.later hg) hl hnc (hr.later hg) (fun k h => Nat.lt_of_lt_of_le (hB k h) hg.size) (hs.later hg) hn hO hOl

/-- What cut.All hands back. -/
theorem all_any (p : Prm) (hp : p.Ok) (A : Option Addr) (n c : Nat) (bs : List UInt8) (w : World) (hl : bs.length = n) (hnc : n ≤ c) (hr : Lies w w.heap.size A (bs.map bv)) (hs : Starts w) (hn : n ≤ 1000000) :
    Calls Tryd.prog 51 #[.slice A n c, pv p] w fun e w' => ∃ bb bp, e = .returned (.func (.func 80) #[] #[.pointer (some ⟨bb, 0, none⟩), .pointer (some ⟨bp, 0, none⟩)]) ∧ w.heap.size ≤ bb ∧ w.heap.size ≤ bp ∧ bb < w'.heap.size ∧ bp < w'.heap.size ∧
      SeqOf Tryd.prog 80 #[.pointer (some ⟨bb, 0, none⟩), .pointer (some ⟨bp, 0, none⟩)] Cpy (chunksOf p bs) (fun k => w.heap.size ≤ k ∧ k < w'.heap.size ∨ k = 0) w' ∧ Grows w w' := by
  have h2 := Has.new w 24 [.int .i64 (p.mn : Int), .int .i64 (p.av : Int), .int .i64 (p.mx : Int)]
  have g2 := grows_alloc w (.cells [.int .i64 (p.mn : Int), .int .i64 (p.av : Int), .int .i64 (p.mx : Int)].toArray 24)
  have CL := bclone_any A n c bs (w.alloc (.cells [.int .i64 (p.mn : Int), .int .i64 (p.av : Int), .int .i64 (p.mx : Int)].toArray 24)) hl (hr.later g2) (by omega)
  rw [World.size_alloc] at CL
  unfold pv pz
  go_enter Tryd.func51, Tryd.ntmps51
  go_wp2_with fail
  refine CL.mono ?_
  rintro e w1 ⟨v, rfl, hown, hg1⟩
  have h3 := h2.later hg1
  have g3 := Grows.trans g2 hg1
  have h4 := Has.new w1 22 [v]
  have g4 := grows_alloc w1 (.cells [v].toArray 22)
  have h5 := h3.later g4
  have g5 := Grows.trans g3 g4
  obtain ⟨A', c', rfl, hnc'⟩ := own_form hown
  have hseq := all_seq p hp w1.heap.size w.heap.size (fun k => w.heap.size + 1 ≤ k ∧ k < w1.heap.size) A' n c' bs (w1.alloc (.cells #[.slice A' n c'] 22)) h4 h5 hl hnc' ((LiesIn.of_own hown).later g4) (fun k h => by rw [World.size_alloc]; omega) (hs.later g5) hn
  have hsz := g3.size
  go_wp2_with fail
  go_ret
  refine ⟨_, _, rfl, hsz, Nat.le_refl _, by simp, by simp; omega, fun O W hg hO hOl => hseq O W hg (fun k hk => hO k ?_) hOl, g5⟩
  rw [World.size_alloc]
  rcases hk with rfl | rfl | rfl | ⟨h1, h2⟩
  · exact .inl ⟨hsz, by omega⟩
  · exact .inl ⟨Nat.le_refl _, by omega⟩
  · exact .inr rfl
  · exact .inl ⟨by omega, by omega⟩
end Go.Proofs.YtnokloedbckijaaDoor

/-
  Lists of pieces of bytes in memory; the law's collect, same; lives.
-/
namespace Go.Proofs.YtnokloedbckijaaDoor
open Go.RowKit Go.Shelf
set_option linter.unusedVariables false
set_option maxRecDepth 20000
attribute [local go_sem] Oper.semAt_some

theorem slc_info : (Tryd.prog.info? 22).map (fun i => (i.zero, i.size, i.bytes)) = some (some (Value.slice none 0 0), 1, 24) := by kernel_rfl
/-- The pieces l, one by one, the cells es of a row. -/
def Each (ok : Nat → Prop) (w : World) (es : List Value) (l : List (List UInt8)) : Prop := es.length = l.length ∧ ∀ (i : Nat) (x : List UInt8), l[i]? = some x → ∃ (A : Option Addr) (c : Nat), es[i]? = some (Value.slice A x.length c) ∧ x.length ≤ c ∧ LiesIn ok w A (x.map bv)
/-- The value v is a row of its own of the pieces l, which lie apart from it. -/
def PcsIn (base : Nat) (w : World) (v : Value) (l : List (List UInt8)) : Prop := ∃ es, w.ownsRow base 22 1 v l.length es ∧ Each (fun k => base ≤ k ∧ v.ownBlock ≠ some k) w es l
/-- The value v is a slice of the pieces l. -/
def Pcl (w : World) (v : Value) (l : List (List UInt8)) : Prop := ∃ A c es, v = .slice A l.length c ∧ l.length ≤ c ∧ Lies w w.heap.size A es ∧ Each (fun k => k < w.heap.size) w es l
theorem Each.mono {ok ok' : Nat → Prop} {w : World} {es : List Value} {l : List (List UInt8)} (h : Each ok w es l) (hk : ∀ k, k < w.heap.size → ok k → ok' k) : Each ok' w es l :=
  ⟨h.1, fun i x hx => let ⟨A, c, h1, h2, h3⟩ := h.2 i x hx; ⟨A, c, h1, h2, fun j u hu => let ⟨ad, e, ho, hc⟩ := h3 j u hu; ⟨ad, e, hk _ (by have := World.block_lt_of_cell? w _ hc; rwa [add_block] at this) ho, hc⟩⟩⟩
theorem Each.turned {ok S : Nat → Prop} {w w' : World} {es : List Value} {l : List (List UInt8)} (h : Each ok w es l) (ht : Turns S w w') (hS : ∀ k, ok k → ¬ S k) : Each ok w' es l :=
  ⟨h.1, fun i x hx => let ⟨A, c, h1, h2, h3⟩ := h.2 i x hx; ⟨A, c, h1, h2, h3.turned ht hS⟩⟩
theorem Each.later {ok : Nat → Prop} {w w' : World} {es : List Value} {l : List (List UInt8)} (h : Each ok w es l) (hg : Grows w w') : Each ok w' es l :=
  ⟨h.1, fun i x hx => let ⟨A, c, h1, h2, h3⟩ := h.2 i x hx; ⟨A, c, h1, h2, h3.later hg⟩⟩
theorem Each.nil (ok : Nat → Prop) (w : World) : Each ok w [] [] := ⟨rfl, fun i x h => by simp at h⟩
theorem Each.snoc {ok : Nat → Prop} {w : World} {es : List Value} {l : List (List UInt8)} (h : Each ok w es l) {A : Option Addr} {c : Nat} {x : List UInt8} (hc : x.length ≤ c) (hx : LiesIn ok w A (x.map bv)) : Each ok w (es ++ [.slice A x.length c]) (l ++ [x]) := by
  refine ⟨by simp [h.1], fun i y hy => ?_⟩
  rcases Nat.lt_or_ge i l.length with hi | hi
  · rw [List.getElem?_append_left hi] at hy
    obtain ⟨A', c', h1, h2, h3⟩ := h.2 i y hy
    exact ⟨A', c', by rw [List.getElem?_append_left (by rw [h.1]; exact hi)]; exact h1, h2, h3⟩
  · have h4 := (List.getElem?_eq_some_iff.1 hy).1
    have hi' : i = l.length := by simp at h4; omega
    subst hi'
    rw [List.getElem?_append_right (Nat.le_refl _), Nat.sub_self] at hy
    have : x = y := by simpa using hy
    subst this
    exact ⟨A, c, by rw [List.getElem?_append_right (by rw [h.1]; exact Nat.le_refl _), h.1, Nat.sub_self]; rfl, hc, hx⟩
theorem PcsIn.nil (base : Nat) (w : World) : PcsIn base w (.slice none 0 0) [] := ⟨[], World.ownsRow_nil _ _ _ _, Each.nil _ _⟩
theorem PcsIn.later {base : Nat} {w w' : World} {v : Value} {l : List (List UInt8)} (h : PcsIn base w v l) (hg : Grows w w') : PcsIn base w' v l := let ⟨es, h1, h2⟩ := h; ⟨es, own_later h1 hg, h2.later hg⟩
theorem PcsIn.turned {base : Nat} {S : Nat → Prop} {w w' : World} {v : Value} {l : List (List UInt8)} (h : PcsIn base w v l) (ht : Turns S w w') (hS : ∀ k, base ≤ k → ¬ S k) : PcsIn base w' v l :=
  let ⟨es, h1, h2⟩ := h; ⟨es, own_turned h1 ht (fun g hg => hS g (own_ge h1 g hg)), h2.turned ht (fun k hk => hS k hk.1)⟩
theorem own_base {base base' : Nat} {w : World} {e : TypeId} {size : Nat} {v : Value} {n : Nat} {xs : List Value} (h : w.ownsRow base e size v n xs) (hb : base' ≤ base) : w.ownsRow base' e size v n xs :=
  ⟨h.1, h.2.imp id fun ⟨g, cap, cur, h1, h2, h3⟩ => ⟨g, cap, cur, h1, by omega, h3⟩⟩
theorem PcsIn.base {base base' : Nat} {w : World} {v : Value} {l : List (List UInt8)} (h : PcsIn base w v l) (hb : base' ≤ base) : PcsIn base' w v l :=
  let ⟨es, h1, h2⟩ := h; ⟨es, own_base h1 hb, h2.mono fun k _ hk => ⟨by omega, hk.2⟩⟩
theorem PcsIn.pcl {base : Nat} {w : World} {v : Value} {l : List (List UInt8)} (h : PcsIn base w v l) : Pcl w v l := by
  obtain ⟨es, h1, h2⟩ := h
  obtain ⟨A, c, rfl, hc⟩ := own_form h1
  exact ⟨A, c, es, rfl, hc, Lies.of_own h1, h2.mono fun k hk _ => hk⟩
theorem Pcl.later {w w' : World} {v : Value} {l : List (List UInt8)} (h : Pcl w v l) (hg : Grows w w') : Pcl w' v l :=
  let ⟨A, c, es, h1, h2, h3, h4⟩ := h; ⟨A, c, es, h1, h2, h3.later hg, (h4.later hg).mono fun k hk _ => hk⟩
theorem own_lt {base : Nat} {w : World} {e : TypeId} {size : Nat} {v : Value} {n : Nat} {xs : List Value} (h : w.ownsRow base e size v n xs) : ∀ g, v.ownBlock = some g → g < w.heap.size := fun g hg => by
  rcases h.2 with ⟨rfl, _⟩ | ⟨g', cap, cur, rfl, h1, h2, _⟩
  · simp [Value.ownBlock] at hg
  · simp [Value.ownBlock] at hg
    subst hg
    exact (Array.getElem?_eq_some_iff.1 h2).1
/-- Behind an append of one piece. -/
theorem lies_grown {W W1 w4 : World} {m : Nat} {A : Option Addr} {vs : List Value} {v0 v' : Value} (h : LiesIn (fun k => m ≤ k ∧ v0.ownBlock ≠ some k) W A vs) (h1 : Grows W W1) (hg : W1.grownBy w4 v0.ownBlock) (hat : v'.ownBlock = v0.ownBlock ∨ v'.ownBlock = some W1.heap.size) :
    LiesIn (fun k => m ≤ k ∧ v'.ownBlock ≠ some k) w4 A vs := fun j u hu => by
  obtain ⟨ad, e, ⟨ho, hn⟩, hc⟩ := h j u hu
  have hc1 := hcell_later hc h1
  have hlt := World.block_lt_of_cell? W1 _ hc1
  rw [add_block] at hlt
  refine ⟨ad, e, ⟨ho, ?_⟩, hg.cell hc1 (fun e => by rw [add_block] at e; exact hn e.symm)⟩
  rcases hat with h | h
  · rw [h]; exact hn
  · rw [h]; intro e; injection e with e; omega
theorem each_grown {W W1 w4 : World} {m : Nat} {es : List Value} {l : List (List UInt8)} {v0 v' : Value} (h : Each (fun k => m ≤ k ∧ v0.ownBlock ≠ some k) W es l) (h1 : Grows W W1) (hg : W1.grownBy w4 v0.ownBlock) (hat : v'.ownBlock = v0.ownBlock ∨ v'.ownBlock = some W1.heap.size) :
    Each (fun k => m ≤ k ∧ v'.ownBlock ≠ some k) w4 es l := ⟨h.1, fun i x hx => let ⟨A, c, a, b, d⟩ := h.2 i x hx; ⟨A, c, a, b, lies_grown d h1 hg hat⟩⟩

set_option maxRecDepth 20000 in
set_option maxHeartbeats 2000000 in
theorem collect_any (p : Prm) (hp : p.Ok) (A : Option Addr) (n c : Nat) (bs : List UInt8) (w : World) (hl : bs.length = n) (hnc : n ≤ c) (hr : Lies w w.heap.size A (bs.map bv)) (hs : Starts w) (hn : n ≤ 1000000) :
    Calls Tryd.prog 19 #[.slice A n c, pv p] w fun e w' => ∃ v, e = .returned v ∧ PcsIn w.heap.size w' v (chunksOf p bs) ∧ Grows w w' := by
  have hb0 := Has.new w 24 [.int .i64 (p.mn : Int), .int .i64 (p.av : Int), .int .i64 (p.mx : Int)]
  have hg0 := grows_alloc w (.cells [.int .i64 (p.mn : Int), .int .i64 (p.av : Int), .int .i64 (p.mx : Int)].toArray 24)
  have hs0 : (w.alloc (.cells [.int .i64 (p.mn : Int), .int .i64 (p.av : Int), .int .i64 (p.mx : Int)].toArray 24)).heap.size = w.heap.size + 1 := by simp
  have hx1 := Has.new (w.alloc (.cells [.int .i64 (p.mn : Int), .int .i64 (p.av : Int), .int .i64 (p.mx : Int)].toArray 24)) 27 [.slice none 0 0]
  have hgx := grows_alloc (w.alloc (.cells [.int .i64 (p.mn : Int), .int .i64 (p.av : Int), .int .i64 (p.mx : Int)].toArray 24)) (.cells [.slice none 0 0].toArray 27)
  have hb1 := hb0.later hgx
  have P0 := hb1.cell (k := 0) rfl
  have P1 := hb1.cell (k := 1) rfl
  have P2 := hb1.cell (k := 2) rfl
  have hg1 := Grows.trans hg0 hgx
  have AL := fun u (h : Grows w u) => all_any p hp A n c bs u hl hnc (hr.later h) (hs.later h) hn
  have hpz : pv p = .agg #[.int .i64 p.mn, .int .i64 p.av, .int .i64 p.mx] := rfl
  rw [hpz] at *
  have AL := Lib.hid AL
  rw [hs0] at hx1
  refine calls_marks Tryd.func19 rfl ?_
  simp only [Tryd.ntmps19, List.size_toArray, List.length_cons, List.length_nil, Nat.reduceAdd, Nat.reduceSub, Array.replicate_succ, Array.replicate_zero, List.push_toArray, List.append_toArray, List.nil_append, List.cons_append]
  gi_wp2_with fail
  refine call_wide (AL.out _ hg1) ?_
  rintro e w3 ⟨bb, bp, rfl, hbb, hbp, hbl, hpl, hseq, hg3⟩
  have hx3 := hx1.later hg3
  have hgw3 := Grows.trans hg1 hg3
  have hfe : ∀ u, (binOp .eql 87 (.func (.func 80) #[] #[.pointer (some ⟨bb, 0, none⟩), .pointer (some ⟨bp, 0, none⟩)]) .nilFunc).run Tryd.prog u = .ok (.bool false) u := fun u => by kernel_rfl
  have hxl := hx3.lt
  have hz := hs.pos
  have hsz3 := hgw3.size
  have hsz1 := hg1.size
  have hbx1 : w.heap.size + 1 < (w.alloc (.cells [.int .i64 (p.mn : Int), .int .i64 (p.av : Int), .int .i64 (p.mx : Int)].toArray 24)).heap.size + 1 := by rw [hs0]; omega
  rw [← World.size_alloc (w.alloc (.cells [.int .i64 (p.mn : Int), .int .i64 (p.av : Int), .int .i64 (p.mx : Int)].toArray 24)) (.cells [.slice none 0 0].toArray 27)] at hbx1
  gi_wp2_with fail
  obtain ⟨bx, hbx⟩ : ∃ k, k = w.heap.size + 1 := ⟨_, rfl⟩
  rw [← hbx] at hx3 hxl hbx1 ⊢
  have hbx0 : w.heap.size < bx := by omega
  clear hbx
  refine wp_range (gf := 80) (lb := #[.pointer (some ⟨bb, 0, none⟩), .pointer (some ⟨bp, 0, none⟩)]) rfl (enters_of Tryd.func80 (by kernel_rfl) rfl) rfl hseq ?gInp (fun k => k = bx) ?gO (fun k h => by rw [h]; exact hxl)
    (fun m pre W => ∃ v, Has W bx [v] ∧ PcsIn m W v pre ∧ Grows w W) (fun _ _ _ _ => False) ?gI (fun _ _ _ _ _ h _ => h) ?gh0
    (fun v => { tmps := #[.slice A n c, .agg #[.int .i64 p.mn, .int .i64 p.av, .int .i64 p.mx], undef, .pointer (some ⟨w.heap.size, 0, none⟩), .slice none 0 0, .pointer (some ⟨bx, 0, none⟩), .func (.func 80) #[] #[.pointer (some ⟨bb, 0, none⟩), .pointer (some ⟨bp, 0, none⟩)], v, .slice A n c,
      .agg #[.int .i64 p.mn, .int .i64 p.av, .int .i64 p.mx], .func (.func 80) #[] #[.pointer (some ⟨bb, 0, none⟩), .pointer (some ⟨bp, 0, none⟩)], .func (.func 80) #[] #[.pointer (some ⟨bb, 0, none⟩), .pointer (some ⟨bp, 0, none⟩)], .bool false,
      .func (.func 80) #[] #[.pointer (some ⟨bb, 0, none⟩), .pointer (some ⟨bp, 0, none⟩)], v, undef, undef, undef, undef, undef], defers := [] })
    ?gassign ?gA ?gbody ?gdone (fun _ _ _ _ _ _ _ _ _ h _ => h.elim)
  case gInp => rintro k (⟨_, h⟩ | rfl) <;> omega
  case gO => rintro k (⟨h, _⟩ | rfl) h' <;> omega
  case gI =>
    rintro m pre A' B' ⟨v, h1, h2, h3⟩ ht
    exact ⟨v, h1.turned ht (fun h => by have := h.1; omega), h2.turned ht (fun k hk h => by have := h.2; omega), turns_then_grows h3 ht (fun k h => Nat.le_trans hsz3 h.1)⟩
  case gh0 => exact fun m W1 _ _ hg => ⟨_, hx3.later hg, PcsIn.nil _ _, Grows.trans hgw3 hg⟩
  case gassign =>
    intro l v W K hK
    gi_wp2
    exact hK
  case gA =>
    rintro m W0 x v A' B' h1 h2 h ht
    exact own_turned h ht (fun g hg h => by have := own_ge ‹_› g hg; have := h.2; omega)
  case gdone =>
    rintro D m W4 hm hmW rfl ⟨v, hx, hrow, hgw⟩ hD
    have hc := hx.cell (k := 0) rfl
    gi_wp2
    have ht := turns_putObj (S := fun k => k = w3.heap.size) W4 w3.heap.size (.deferred none) rfl
    exact marks_ret hD (fun u => results_tmp rfl _ _ _) ⟨v, rfl, (hrow.turned ht (fun k hk h => by omega)).base (by omega), turns_then_grows hgw ht (fun k h => by rw [h]; exact hsz3)⟩
  case gbody =>
    rintro l' m pre x v W0 W4 hm hmW0 ⟨v0, hx0, ⟨es, hown0, heach0⟩, hgw0⟩ _ hT0 hpre hav
    have hx := hx0.turned hT0 (fun h => by have := h.1; omega)
    have hown := own_turned hown0 hT0 (fun g hg h => by have := own_ge hown0 g hg; have := h.2; omega)
    have heach := heach0.turned hT0 (fun k hk h => by have := hk.1; have := h.2; omega)
    have hgw := turns_then_grows hgw0 hT0 (fun k h => Nat.le_trans hsz3 h.1)
    have hmW := Nat.le_trans hmW0 hT0.size
    have hlt0 := fun g hg => (own_lt hown0 g hg : g < W0.heap.size)
    have hav' : W4.ownsRow W0.heap.size 5 1 v x.length (x.map bv) := hav
    obtain ⟨Ax, cx, rfl, hxc⟩ := own_form hav'
    have hlx := LiesIn.of_own hav'
    clear hx0 heach0 hgw0 hav hT0
    have hlen : pre.length + 1 ≤ 1000000 := by
      have h1 := hpre.length_le
      have h2 := chunks_len p bs
      rw [List.length_append, List.length_singleton] at h1
      omega
    have hc := hx.cell (k := 0) rfl
    obtain ⟨i0, hi0, hz0, hz1, hz2⟩ := info_parts slc_info
    have HC := fun (w4 : World) (h : (W4.alloc (.cells #[.slice Ax x.length cx] 22)).grownBy w4 v0.ownBlock) => coll_app (row := none) hx (by omega) hown (grows_alloc W4 _) h
    have HE := fun (v' : Value) (w4 : World) (h : (W4.alloc (.cells #[.slice Ax x.length cx] 22)).grownBy w4 v0.ownBlock) (hat : v'.ownBlock = v0.ownBlock ∨ v'.ownBlock = some (W4.alloc (.cells #[.slice Ax x.length cx] 22)).heap.size) =>
      (show Each (fun k => m ≤ k ∧ v'.ownBlock ≠ some k) w4 (es ++ [.slice Ax x.length cx]) (pre ++ [x]) from (each_grown heach (grows_alloc W4 _) h hat).snoc hxc (lies_grown (v0 := v0) (fun j u hu => by
        obtain ⟨ad, e, ⟨h1, h2⟩, h3⟩ := hlx j u hu
        exact ⟨ad, e, ⟨by omega, fun e => by have := hlt0 _ e; omega⟩, h3⟩) (grows_alloc W4 _) h hat))
    have HLN : Hid ((pre ++ [x]).length = pre.length + 1) := by show _ = _; simp
    have HC := Lib.hid HC
    have HE := Lib.hid HE
    gi_wp2_with (gi_at_builtin; go_loud (refine wpListIn_append_own_at _ rfl (.tmp 15) (.tmp 17) _ rfl m 22 i0 _ 1 24 Tryd.underlying27 hi0 hz0 hz1 hz2 rfl (by decide) v0 pre.length _ rfl (hown.alloc _) ⟨W4.heap.size, 0, none⟩ 1 1 [.slice Ax x.length cx] rfl rfl (cell_one_new _ _ _) (by simp [Value.oneCell']) (by unfold maxLen; omega) (by omega) (by rw [World.size_alloc]; omega) ?_; intro v' w4 hown' hg' hnil' hat'; obtain ⟨hx4, ht4⟩ := HC.out w4 hg'; have he4 := HE.out v' w4 hg' hat'; have hc4 := hx4.cell (k := 0) rfl; have hf4 := hx4.free 0; obtain ⟨hx5, ho5, ht5⟩ := coll_set hx4 (by omega) hown' ht4; have he5 := he4.turned (Turns.of_set (S := fun k => k = bx) (b := bx) (o := 0) w4 v' rfl) (fun k hk h => by have := hk.1; omega); obtain ⟨A5, c5, rfl, _⟩ := own_form hown'))
    exact ⟨ht5, _, hx5, ⟨_, by rw [HLN.out]; exact ho5, he5⟩, turns_then_grows hgw ht5 (fun k h => h.elim (fun h => by omega) (fun h => by omega))⟩
end Go.Proofs.YtnokloedbckijaaDoor
