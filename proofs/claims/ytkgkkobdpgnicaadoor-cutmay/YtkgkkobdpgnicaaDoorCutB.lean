/-
  Contracts of roll.New, (*Roll).Add, (*Roll).Reset over a roll that lies in a block. Condition: the table starts holds the words from which sixteen each are made.
-/
import Derived.Test.YtkgkkobdpgnicaaDoorCutA
namespace Go.Proofs.YtkgkkobdpgnicaaDoor
open Go.RowKit
set_option linter.unusedVariables false

/-- A roll's cells in block b: the ring r, where the next byte goes, how many there are, the hash. -/
structure Ri (w : World) (b : Nat) (r : List UInt8) (x s h : Nat) : Prop where
  has : Has w b (r.map bv ++ [.int .i64 (x : Int), .int .i64 (s : Int), uv h])
  len : r.length = 16
section
variable {w w' : World} {b x s h : Nat} {r : List UInt8}
theorem Ri.cx (R : Ri w b r x s h) : w.cell? ⟨b, 16, none⟩ = some (.int .i64 (x : Int)) := R.has.cell (by rw [List.getElem?_append_right (by simp [R.len])]; simp [R.len])
theorem Ri.cs (R : Ri w b r x s h) : w.cell? ⟨b, 17, none⟩ = some (.int .i64 (s : Int)) := R.has.cell (by rw [List.getElem?_append_right (by simp [R.len])]; simp [R.len])
theorem Ri.ch (R : Ri w b r x s h) : w.cell? ⟨b, 18, none⟩ = some (.int .u32 (h : Int)) := R.has.cell (by rw [List.getElem?_append_right (by simp [R.len])]; simp [R.len])
theorem Ri.cb (R : Ri w b r x s h) {k : Nat} {d : UInt8} (hd : r[k]? = some d) : w.cell? ⟨b, k, none⟩ = some (.int .u8 (d.toNat : Int)) := R.has.cell (by
  have := (List.getElem?_eq_some_iff.1 hd).1
  rw [List.getElem?_append_left (by simpa using this), List.getElem?_map, hd]; rfl)
theorem Ri.setX (R : Ri w b r x s h) (y : Nat) : Ri (w.setCell ⟨b, 16, none⟩ (.int .i64 (y : Int))) b r y s h := by
  refine ⟨?_, R.len⟩
  have := R.has.set_ (k := 16) (by simp [R.len]) (.int .i64 (y : Int))
  rwa [List.set_append_right _ _ (by simp [R.len]), List.length_map, R.len] at this
theorem Ri.setS (R : Ri w b r x s h) (y : Nat) : Ri (w.setCell ⟨b, 17, none⟩ (.int .i64 (y : Int))) b r x y h := by
  refine ⟨?_, R.len⟩
  have := R.has.set_ (k := 17) (by simp [R.len]) (.int .i64 (y : Int))
  rwa [List.set_append_right _ _ (by simp [R.len]), List.length_map, R.len] at this
theorem Ri.setH (R : Ri w b r x s h) (y : Nat) : Ri (w.setCell ⟨b, 18, none⟩ (.int .u32 (y : Int))) b r x s y := by
  refine ⟨?_, R.len⟩
  have := R.has.set_ (k := 18) (by simp [R.len]) (.int .u32 (y : Int))
  rwa [List.set_append_right _ _ (by simp [R.len]), List.length_map, R.len] at this
theorem Ri.setB (R : Ri w b r x s h) (k : Nat) (hk : k < 16) (c : UInt8) : Ri (w.setCell ⟨b, k, none⟩ (.int .u8 (c.toNat : Int))) b (r.set k c) x s h := by
  refine ⟨?_, by rw [List.length_set]; exact R.len⟩
  have := R.has.set_ (k := k) (by simp [R.len]; omega) (.int .u8 (c.toNat : Int))
  rwa [List.set_append_left _ _ (by simp [R.len]; omega), show (.int .u8 (c.toNat : Int) : Value) = bv c from rfl, ← List.map_set] at this
theorem Ri.later (R : Ri w b r x s h) (hg : Grows w w') : Ri w' b r x s h := ⟨R.has.later hg, R.len⟩
theorem Ri.turned {S : Nat → Prop} (R : Ri w b r x s h) (ht : Turns S w w') (hn : ¬ S b) : Ri w' b r x s h := ⟨R.has.turned ht hn, R.len⟩
end
/-- The ring holds the last sixteen. -/
def Ring (r l : List UInt8) : Prop := ∀ i, i < l.length → l.length - 16 ≤ i → r[i % 16]? = l[i]?
/-- The roll in block b is that of the bytes l. -/
def Rolls (w : World) (b : Nat) (l : List UInt8) : Prop := ∃ r, Ri w b r (l.length % 16) (min 16 l.length) (hashOf l) ∧ Ring r l
theorem Rolls.later {w w' : World} {b : Nat} {l : List UInt8} (R : Rolls w b l) (hg : Grows w w') : Rolls w' b l := let ⟨r, h, k⟩ := R; ⟨r, h.later hg, k⟩
theorem Rolls.turned {w w' : World} {b : Nat} {l : List UInt8} {S : Nat → Prop} (R : Rolls w b l) (ht : Turns S w w') (hn : ¬ S b) : Rolls w' b l := let ⟨r, h, k⟩ := R; ⟨r, h.turned ht hn, k⟩
theorem Rolls.lt {w : World} {b : Nat} {l : List UInt8} (R : Rolls w b l) : b < w.heap.size := let ⟨_, h, _⟩ := R; h.has.lt
theorem ring_snoc {r l : List UInt8} (h : Ring r l) (hr : r.length = 16) (c : UInt8) : Ring (r.set (l.length % 16) c) (l ++ [c]) := by
  intro i h1 h2
  rw [List.length_append, List.length_singleton] at h1 h2
  rcases Nat.lt_or_ge i l.length with hi | hi
  · rw [List.getElem?_append_left hi, List.getElem?_set_ne (by omega)]
    exact h i hi (by omega)
  · obtain rfl : i = l.length := by omega
    rw [List.getElem?_append_right (Nat.le_refl _), Nat.sub_self, List.getElem?_set_self (by omega)]
    rfl
def zeros16 : List UInt8 := List.replicate 16 0
theorem roll_size : (Tryd.prog.info? 94).map (·.size) = some 19 := by kernel_rfl
def rollCells : List Value := (zeros16.map bv : List Value) ++ [.int .i64 0, .int .i64 0, .int .u32 0]
theorem run_roll_zero (u : World) : (Instr.build 94 #[]).run Tryd.prog u = .ok (.agg rollCells.toArray) u := by kernel_rfl
theorem roll_new {w : World} {b : Nat} (h : Has w b rollCells) : Rolls w b [] := ⟨zeros16, ⟨h, rfl⟩, fun i h => by simp at h⟩

theorem rollnew_any (w : World) :
    Calls Tryd.prog 41 #[] w fun e w' => ∃ b, e = .returned (.pointer (some ⟨b, 0, none⟩)) ∧ w.heap.size ≤ b ∧ Rolls w' b [] ∧ Grows w w' := by
  have hz := fun u => run_roll_zero u
  have hn := roll_new (Has.new w 94 rollCells)
  have hg := grows_alloc w (.cells rollCells.toArray 94)
  go_enter Tryd.func41, Tryd.ntmps41
  go_wp2
  go_ret
  exact ⟨_, rfl, Nat.le_refl _, hn, hg⟩
theorem rollcells_len : rollCells.length = 19 := rfl
theorem rollcells_one : ∀ v ∈ rollCells, v.oneCell' = true := by decide +kernel
theorem rolls_cells {w : World} {b : Nat} {l : List UInt8} (R : Rolls w b l) : ∃ vs, Has w b vs ∧ vs.length = 19 := let ⟨r, h, _⟩ := R; ⟨_, h.has, by simp [h.len]⟩
theorem reset_any (b : Nat) (l : List UInt8) (w : World) (R : Rolls w b l) :
    Calls Tryd.prog 52 #[.pointer (some ⟨b, 0, none⟩)] w fun e w' => e = .returned (.tuple #[]) ∧ Rolls w' b [] ∧ Turns (fun k => k = b) w w' := by
  have hz := fun u => run_roll_zero u
  obtain ⟨vs, hv, hl⟩ := rolls_cells R
  have hn := fun w' (h : Has w' b rollCells) => roll_new h
  have h1 := rollcells_one
  have h2 := rollcells_len
  go_enter Tryd.func52, Tryd.ntmps52
  go_wp2_with (refine wpList_storeT rfl 94 (.tmp 4) (.tmp 3) rfl b vs rollCells 19 rfl rfl hv hl h2 roll_size h1 ?_; intro w1 hw1 ht1)
  go_end0
  exact ⟨rfl, hn _ hw1, ht1⟩

theorem min_next (n : Nat) : min 16 (n + 1) = if n < 16 then n + 1 else 16 := by split <;> omega
set_option maxRecDepth 20000 in
set_option maxHeartbeats 1000000 in
theorem add_any (b : Nat) (l : List UInt8) (c : UInt8) (w : World) (R : Rolls w b l) (hs : Starts w) (hne : b ≠ 0) :
    Calls Tryd.prog 51 #[.pointer (some ⟨b, 0, none⟩), bv c] w fun e w' => e = .returned (uv (hashOf (l ++ [c]))) ∧ Rolls w' b (l ++ [c]) ∧ Turns (fun k => k = b) w w' := by
  obtain ⟨r, Q, hring⟩ := R
  have hr16 := Q.len
  have HRS := Lib.hid (ring_snoc hring hr16 c)
  have hlen : (l ++ [c]).length = l.length + 1 := by simp
  have HLEN := Lib.hid hlen
  have hh := hashOf_lt l
  have HFW : Hid (l.length < 16 → hashOf (l ++ [c]) = rl (hashOf l) ^^^ wordOf c) := fun h => hash_few l c h
  have HGO : Hid (16 ≤ l.length → ∃ d, r[l.length % 16]? = some d ∧ hashOf (l ++ [c]) = (rl (hashOf l) ^^^ wordOf c) ^^^ rln 16 (wordOf d)) := fun h => by
    obtain ⟨d, hd⟩ : ∃ d, l[l.length - 16]? = some d := ⟨_, List.getElem?_eq_getElem (by omega)⟩
    have := hring (l.length - 16) (by omega) (Nat.le_refl _)
    rw [show (l.length - 16) % 16 = l.length % 16 by omega, hd] at this
    exact ⟨d, this, by rw [hash_goes l c d h hd, Nat.xor_assoc, Nat.xor_comm (rln 16 _), ← Nat.xor_assoc]⟩
  have HX : Hid ((l.length + 1) % 16 = (l.length % 16 + 1) % 16) := by show _ = _; omega
  have HMN : Hid (min 16 (l.length + 1) = if l.length < 16 then l.length + 1 else 16) := min_next _
  have hh' := hashOf_lt (l ++ [c])
  clear hring hlen
  unfold Rolls
  have HEQ : Hid (∀ n' h2 : Nat, n' = l.length → h2 = hashOf (l ++ [c]) → ∀ u r x s h, Ri u b r x s h → x = (n' + 1) % 16 → s = min 16 (n' + 1) → h = h2 → Ri u b r ((l ++ [c]).length % 16) (min 16 (l ++ [c]).length) (hashOf (l ++ [c]))) := by
    rintro n' h2 rfl rfl u r x s h hR rfl rfl rfl
    rw [List.length_append, List.length_singleton]; exact hR
  have HFIN : Hid (∀ u r x s h, Ri u b r x s h → x = (l.length + 1) % 16 → s = min 16 (l.length + 1) → h = hashOf (l ++ [c]) → Ri u b r ((l ++ [c]).length % 16) (min 16 (l ++ [c]).length) (hashOf (l ++ [c]))) := HEQ.out _ _ rfl rfl
  have HRET : Hid (∀ h, h = hashOf (l ++ [c]) → uv h = uv (hashOf (l ++ [c]))) := fun h e => by rw [e]
  clear HEQ HLEN
  have F1 := fun u (h : Starts u) => follow_any (hashOf l) c u hh h
  have hy := Nat.xor_lt_two_pow (n := 32) (rl_lt (hashOf l)) (wordOf_lt c)
  generalize rl (hashOf l) ^^^ wordOf c = y at *
  generalize hashOf l = h at *
  have hx16 : l.length % 16 < 16 := Nat.mod_lt _ (by decide)
  generalize l.length % 16 = x at *
  have hx16i : (x : Int) < 16 := by omega
  have hch := Q.ch
  have HQ := Lib.hid Q
  clear Q
  have HS := Lib.hid hs
  have htm : ((x : Int) + 1).tmod 16 = (((x + 1) % 16 : Nat) : Int) := by rw [Int.tmod_eq_emod_of_nonneg (by omega)]; omega
  have htm2 : ((x : Int) + 1) % 16 = (((x + 1) % 16 : Nat) : Int) := by omega
  generalize (x + 1) % 16 = x2 at *
  go_enter Tryd.func51, Tryd.ntmps51
  go_wp2_with fail
  refine (F1 w hs).mono ?_
  rintro e w1 ⟨rfl, hg⟩
  have Q1 := HQ.out.later hg
  have hcs := Q1.cs
  by_cases hlt : l.length < 16
  · have hmin : min 16 l.length = l.length := by omega
    rw [hmin] at hcs Q1
    have hfw := HFW.out hlt
    rw [if_pos hlt] at HMN
    generalize l.length = n at *
    have e1 : ((n : Int) == 16) = false := by simp; omega
    have hfr := Q1.has.free 17
    have Q2 := Q1.setS (n + 1)
    have T2 := (Turns.of_grows (S := fun k => k = b) hg).trans (Turns.of_set (o := 17) w1 (.int .i64 ((n + 1 : Nat) : Int)) rfl)
    rw [show ((n + 1 : Nat) : Int) = (n : Int) + 1 by omega] at Q2 T2
    go_wp2_with fail
    generalize hw2 : w1.setCell ⟨b, 17, none⟩ (.int .i64 ((n : Int) + 1)) = w2 at *
    clear hw2
    refine wp_region_ord 9 [(0, true), (1, true), (2, true), (3, true), (4, true), (5, true), (6, true), (7, true), (8, true)] (by kernel_rfl) (by kernel_rfl) ?_
    have f0 : ∀ u, Grows w2.drew u → u.cell? ⟨b, 16, none⟩ = some (.int .i64 (x : Int)) := fun u h => hcell_later (a := w2.drew) Q2.cx h
    have hO := Grows.refl w2.drew
    repeat (first | (refine ord_take hO _ ?_ (by simp only [List.getElem?_cons_succ, List.getElem?_cons_zero]; rfl) (by rfl) ?_ ?_; rotate_left; (· (intro u hu0 hu; (try go_simp); (try with_reducible rfl))); try simp only [Act.put, List.setIfInBounds_toArray, List.set_cons_zero, List.set_cons_succ]) | (refine ord_skip _ (by simp only [List.getElem?_cons_succ, List.getElem?_cons_zero]; rfl) (by rfl) ?_; try simp only [Act.put, List.setIfInBounds_toArray, List.set_cons_zero, List.set_cons_succ]))
    clear f0 hO
    (refine ord_done (fun u hu => ?_); simp only [List.drop_succ_cons, List.drop_zero])
    have hgu : Grows w2 u := Grows.trans ((Grows.refl w2).drew) hu
    have Q3 := (Q2.later hgu).setB x hx16 c
    have hfr3 := (Q2.later hgu).has.free x
    obtain ⟨dx, hdx⟩ : ∃ d, r[x]? = some d := ⟨_, List.getElem?_eq_getElem (by omega)⟩
    have hc3 := (Q2.later hgu).cb hdx
    have T3 := (T2.trans (Turns.of_grows hgu)).trans (Turns.of_set (o := x) u (.int .u8 (c.toNat : Int)) rfl)
    unfold bv
    generalize hw3 : u.setCell ⟨b, x, none⟩ (.int .u8 (c.toNat : Int)) = w3 at *
    have HW3 := Lib.hid hw3
    clear hw3
    go_wp2_with fail
    refine NoPanic.normal ?_
    change Exit.then _ _ _ _ (u.setCell ⟨b, x, none⟩ (.int .u8 (c.toNat : Int)))
    rw [HW3.out]
    have hx3 := Q3.cx
    have hfx3 := Q3.has.free 16
    have Q4 := Q3.setX x2
    have T4 := T3.trans (Turns.of_set (o := 16) w3 (.int .i64 (x2 : Int)) rfl)
    clear hc3 hfr3 hgu hu T3 T2 Q2 Q1 hfr hcs
    have hh4 := Q4.ch
    have hfh4 := Q4.has.free 18
    have Q5 := Q4.setH y
    have T5 := T4.trans (Turns.of_set (o := 18) _ (.int .u32 ((y : Nat) : Int)) rfl)
    go_wp2_with fail
    go_ret
    exact ⟨congrArg Ending.returned (HRET.out _ hfw.symm), ⟨r.set x c, HFIN.out _ _ _ _ _ Q5 HX.out.symm HMN.out.symm hfw.symm, HRS.out⟩, T5⟩
  · have hmin : min 16 l.length = 16 := by omega
    rw [hmin] at hcs Q1
    obtain ⟨d, hd, hfw⟩ := HGO.out (by omega)
    rw [if_neg hlt] at HMN
    have hcd := Q1.cb hd
    have hz := rln_lt 16 (wordOf_lt d)
    have hxo : bits .xor .u32 (y : Int) ((rln 16 (wordOf d) : Nat) : Int) = ((y ^^^ rln 16 (wordOf d) : Nat) : Int) := u32_xor_nat _ _ hy hz
    have RW : Hid (∀ u, Starts u → Calls Tryd.prog 60 #[.agg #[], bv d] u fun e w' => e = .returned (uv (wordOf d)) ∧ Grows u w') := fun u h => rule_any d u h
    have hd8 : bv d = .int .u8 (d.toNat : Int) := rfl
    rw [hd8] at RW
    have hwl := wordOf_lt d
    have RT : Hid (∀ u, Calls Tryd.prog 62 #[uv (wordOf d), .int .i64 16] u fun e w' => e = .returned (uv (rln 16 (wordOf d))) ∧ Grows u w') := fun u => (rot16_any _ u hwl).mono fun _ _ ⟨he, hw⟩ => ⟨he, by rw [← hw]; exact Grows.refl _⟩
    have hny : y ^^^ rln 16 (wordOf d) < 4294967296 := Nat.xor_lt_two_pow (n := 32) hy hz
    generalize rln 16 (wordOf d) = z at *
    generalize wordOf d = zw at *
    generalize y ^^^ z = y2 at *
    have e1 : (((16 : Nat) : Int) == 16) = true := by simp
    have S1 := HS.out.later hg
    have SD : Hid (∀ u, Grows w1.drew u → Starts u) := fun u h => S1.later (Grows.trans ((Grows.refl w1).drew) h)
    have hcx1 := Q1.cx
    go_wp2_with fail
    refine wp_region_ord 15 [(0, true), (1, true), (2, true), (3, true), (4, true), (5, true), (6, true), (7, true), (8, true), (9, true), (10, true), (11, true), (12, true), (13, true), (14, true)] (by kernel_rfl) (by kernel_rfl) ?_
    have f0 : ∀ u, Grows w1.drew u → u.cell? ⟨b, 16, none⟩ = some (.int .i64 (x : Int)) := fun u h => hcell_later (a := w1.drew) hcx1 h
    have f1 : ∀ u, Grows w1.drew u → u.cell? ⟨b, x, none⟩ = some (.int .u8 (d.toNat : Int)) := fun u h => hcell_later (a := w1.drew) hcd h
    have hO := Grows.refl w1.drew
    repeat (first | (refine ord_take hO _ ?_ (by simp only [List.getElem?_cons_succ, List.getElem?_cons_zero]; rfl) (by rfl) ?_ ?_; rotate_left; (· (intro u hu0 hu; (try go_simp); (try with_reducible rfl))); try simp only [Act.put, List.setIfInBounds_toArray, List.set_cons_zero, List.set_cons_succ]) | (refine ord_skip _ (by simp only [List.getElem?_cons_succ, List.getElem?_cons_zero]; rfl) (by rfl) ?_; try simp only [Act.put, List.setIfInBounds_toArray, List.set_cons_zero, List.set_cons_succ]) | (refine ord_call hO _ ?_ (by simp only [List.getElem?_cons_succ, List.getElem?_cons_zero]; rfl) (by rfl) ?_ ?_; rotate_left; (· (intro u hu0 hu; go_simp; (try refine quiet_enter ?_); (first | with_reducible exact RW.out u (SD.out u hu0) | with_reducible exact RT.out u))); try simp only [Act.put, List.setIfInBounds_toArray, List.set_cons_zero, List.set_cons_succ]))
    clear f0 f1 hO
    refine ord_done (fun w2 hu => ?_); simp only [List.drop_succ_cons, List.drop_zero]
    have hgu : Grows w1 w2 := Grows.trans ((Grows.refl w1).drew) hu
    have Q2 := Q1.later hgu
    have T2 := (Turns.of_grows (S := fun k => k = b) hg).trans (Turns.of_grows hgu)
    clear hu hgu
    go_wp2_with fail
    refine NoPanic.normal ?_
    go_wp2_with fail
    refine wp_region_ord 9 [(0, true), (1, true), (2, true), (3, true), (4, true), (5, true), (6, true), (7, true), (8, true)] (by kernel_rfl) (by kernel_rfl) ?_
    have f0 : ∀ u, Grows w2.drew u → u.cell? ⟨b, 16, none⟩ = some (.int .i64 (x : Int)) := fun u h => hcell_later (a := w2.drew) Q2.cx h
    have hO := Grows.refl w2.drew
    repeat (first | (refine ord_take hO _ ?_ (by simp only [List.getElem?_cons_succ, List.getElem?_cons_zero]; rfl) (by rfl) ?_ ?_; rotate_left; (· (intro u hu0 hu; (try go_simp); (try with_reducible rfl))); try simp only [Act.put, List.setIfInBounds_toArray, List.set_cons_zero, List.set_cons_succ]) | (refine ord_skip _ (by simp only [List.getElem?_cons_succ, List.getElem?_cons_zero]; rfl) (by rfl) ?_; try simp only [Act.put, List.setIfInBounds_toArray, List.set_cons_zero, List.set_cons_succ]))
    clear f0 hO
    (refine ord_done (fun u hu => ?_); simp only [List.drop_succ_cons, List.drop_zero])
    have hgu : Grows w2 u := Grows.trans ((Grows.refl w2).drew) hu
    have Q3 := (Q2.later hgu).setB x hx16 c
    have hfr3 := (Q2.later hgu).has.free x
    obtain ⟨dx, hdx⟩ : ∃ d, r[x]? = some d := ⟨_, List.getElem?_eq_getElem (by omega)⟩
    have hc3 := (Q2.later hgu).cb hdx
    have T3 := (T2.trans (Turns.of_grows hgu)).trans (Turns.of_set (o := x) u (.int .u8 (c.toNat : Int)) rfl)
    unfold bv
    generalize hw3 : u.setCell ⟨b, x, none⟩ (.int .u8 (c.toNat : Int)) = w3 at *
    have HW3 := Lib.hid hw3
    clear hw3
    go_wp2_with fail
    refine NoPanic.normal ?_
    change Exit.then _ _ _ _ (u.setCell ⟨b, x, none⟩ (.int .u8 (c.toNat : Int)))
    rw [HW3.out]
    have hx3 := Q3.cx
    have hfx3 := Q3.has.free 16
    have Q4 := Q3.setX x2
    have T4 := T3.trans (Turns.of_set (o := 16) w3 (.int .i64 (x2 : Int)) rfl)
    clear hc3 hfr3 hgu hu T3 T2 Q2 Q1 hcs
    have hh4 := Q4.ch
    have hfh4 := Q4.has.free 18
    have Q5 := Q4.setH y2
    have T5 := T4.trans (Turns.of_set (o := 18) _ (.int .u32 ((y2 : Nat) : Int)) rfl)
    go_wp2_with fail
    go_ret
    exact ⟨congrArg Ending.returned (HRET.out _ hfw.symm), ⟨r.set x c, HFIN.out _ _ _ _ _ Q5 HX.out.symm HMN.out.symm hfw.symm, HRS.out⟩, T5⟩
end Go.Proofs.YtkgkkobdpgnicaaDoor
