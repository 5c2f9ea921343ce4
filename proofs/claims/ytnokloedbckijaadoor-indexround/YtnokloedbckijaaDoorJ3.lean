/-
  Contracts, joined (CutI RAro CutP CrcM CrcA CrcC CrcD IxM OpX ItR ItE CutT IxA IxB).
-/
import Derived.Test.YtnokloedbckijaaDoorJ2
import Derived.Lib.SlBytesConst
import Derived.Test.YtnokloedbckijaaDoorRows
import Derived.Test.YtnokloedbckijaaDoorJ1
import Derived.Outline
import Derived.Lib.Hide
import Derived.Laws.BitsAllLaws
import Derived.BigQuiet
import Derived.Deep.Slices
import Derived.Deep.Fields
import Derived.Deep.Strs
import Derived.ChangeSlices
import Derived.Great.BuildSlice
import Derived.Laws.StructEq

/-
  The law's same; the reference's SameInts; lives.
-/
namespace Go.Proofs.YtnokloedbckijaaDoor
open Go.RowKit
set_option linter.unusedVariables false
set_option maxRecDepth 20000

set_option maxRecDepth 20000 in
set_option maxHeartbeats 1000000 in
theorem same_eq (va vb : Value) (l : List (List UInt8)) (w : World) (ha : Pcl w va l) (hb : Pcl w vb l) (hn : l.length ≤ 1000000) :
    Calls Tryd.prog 18 #[va, vb] w fun e w' => e = .returned (.bool true) ∧ Grows w w' := by
  obtain ⟨A, c, es, rfl, hc, hL, hE⟩ := ha
  obtain ⟨B, d, fs, rfl, hd, hM, hF⟩ := hb
  have HN := Lib.hid (show l.length = l.length from rfl)
  obtain ⟨n, hnn⟩ : ∃ n, n = l.length := ⟨_, rfl⟩
  rw [← hnn] at hn hc hd ⊢
  have HNN := Lib.hid hnn
  clear hnn HN
  go_enter Tryd.func18, Tryd.ntmps18
  go_wp2
  go_loopw [5] (fun i wr => ∃ k : Nat, k ≤ n ∧ i = .int .i64 (k : Int) ∧ Grows w wr) (fun i _ => n - (intOf i).toNat)
  case atStart => exact ⟨0, Nat.zero_le _, rfl, Grows.refl _⟩
  case round =>
    obtain ⟨k, hk, rfl, hg⟩ := hrel
    by_cases hlt : k < n
    · obtain ⟨x, hx⟩ : ∃ x, l[k]? = some x := ⟨_, List.getElem?_eq_getElem (by rw [← HNN.out]; exact hlt)⟩
      obtain ⟨Ax, cx, e1, hxc, hLx⟩ := hE.2 k x hx
      obtain ⟨Ay, cy, e2, hyc, hLy⟩ := hF.2 k x hx
      obtain ⟨ad, rfl, _, c1⟩ := hL.at_ e1
      obtain ⟨ad2, rfl, _, c2⟩ := hM.at_ e2
      have hki : (k : Int) < (n : Int) := by omega
      have f1 : ∀ u, Grows wr.drew u → u.cell? (ad.add k) = some (.slice Ax x.length cx) := fun u h => hcell_later c1 (Grows.trans hg (Grows.trans (Grows.refl wr).drew h))
      have f2 : ∀ u, Grows wr.drew u → u.cell? (ad2.add k) = some (.slice Ay x.length cy) := fun u h => hcell_later c2 (Grows.trans hg (Grows.trans (Grows.refl wr).drew h))
      have v1 : ∀ u, Grows wr.drew u → (convert 22 9 (.slice Ax x.length cx)).run Tryd.prog u = .ok (.string ⟨x.toArray⟩) u := fun u h =>
        run_string_of u 22 5 Tryd.underlying22 Tryd.underlying5 9 Tryd.underlying9 _ Ax x.length cx x rfl ((hLx.lies fun _ h => h).later (Grows.trans hg (Grows.trans (Grows.refl wr).drew h)))
      have v2 : ∀ u, Grows wr.drew u → (convert 22 9 (.slice Ay x.length cy)).run Tryd.prog u = .ok (.string ⟨x.toArray⟩) u := fun u h =>
        run_string_of u 22 5 Tryd.underlying22 Tryd.underlying5 9 Tryd.underlying9 _ Ay x.length cy x rfl ((hLy.lies fun _ h => h).later (Grows.trans hg (Grows.trans (Grows.refl wr).drew h)))
      have hO := Grows.refl wr.drew
      go_wp2_with fail
      refine wp_region_ord 11 [(0, true), (1, true), (2, true), (3, true), (4, true), (5, true), (6, true), (7, true), (8, true), (9, true), (10, true)] (by kernel_rfl) (by kernel_rfl) ?_
      repeat (first | (refine ord_take hO _ ?_ (by simp only [List.getElem?_cons_succ, List.getElem?_cons_zero]; rfl) (by rfl) ?_ ?_; rotate_left; (· (intro u hu0 hu; (try go_simp); (try with_reducible rfl))); try simp only [Act.put, List.setIfInBounds_toArray, List.set_cons_zero, List.set_cons_succ]) | (refine ord_skip _ (by simp only [List.getElem?_cons_succ, List.getElem?_cons_zero]; rfl) (by rfl) ?_; try simp only [Act.put, List.setIfInBounds_toArray, List.set_cons_zero, List.set_cons_succ]))
      refine ord_done (fun w4 hu => ?_); simp only [List.drop_succ_cons, List.drop_zero]
      have hg4 := Grows.trans hg (Grows.trans (Grows.refl wr).drew hu)
      clear f1 f2 v1 v2 hO hu
      go_wp2_with fail
      refine NoPanic.normal ?_
      go_wp2_with fail
      go_roundw
      case rel => exact ⟨k + 1, by omega, by go_num, hg4⟩
      case measure => simp [intOf]; omega
    · have hkn : k = n := by omega
      subst hkn
      have d1 : decide ((k : Int) < (k : Int)) = false := by simp
      go_wp2_with fail
      go_ret
      exact ⟨rfl, hg⟩

set_option maxRecDepth 20000 in
set_option maxHeartbeats 1000000 in
theorem sameints_eq (A B : Option Addr) (n c d : Nat) (l : List Int) (w : World) (hl : l.length = n) (hL : Lies w w.heap.size A (l.map fun x => .int .i64 x)) (hM : Lies w w.heap.size B (l.map fun x => .int .i64 x)) (hn : n ≤ 1000000) :
    Calls Tryd.prog 52 #[.slice A n c, .slice B n d] w fun e w' => e = .returned (.bool true) ∧ Grows w w' := by
  have HL := Lib.hid hl
  clear hl
  go_enter Tryd.func52, Tryd.ntmps52
  go_wp2
  go_loopw [5] (fun i wr => ∃ k : Nat, k ≤ n ∧ i = .int .i64 (k : Int) ∧ Grows w wr) (fun i _ => n - (intOf i).toNat)
  case atStart => exact ⟨0, Nat.zero_le _, rfl, Grows.refl _⟩
  case round =>
    obtain ⟨k, hk, rfl, hg⟩ := hrel
    by_cases hlt : k < n
    · obtain ⟨x, hx⟩ : ∃ x, l[k]? = some x := ⟨_, List.getElem?_eq_getElem (by rw [HL.out]; exact hlt)⟩
      obtain ⟨ad, rfl, _, c1⟩ := hL.at_ (j := k) (u := .int .i64 x) (by rw [List.getElem?_map, hx]; rfl)
      obtain ⟨ad2, rfl, _, c2⟩ := hM.at_ (j := k) (u := .int .i64 x) (by rw [List.getElem?_map, hx]; rfl)
      have hki : (k : Int) < (n : Int) := by omega
      have f1 : ∀ u, Grows wr.drew u → u.cell? (ad.add k) = some (.int .i64 x) := fun u h => hcell_later c1 (Grows.trans hg (Grows.trans (Grows.refl wr).drew h))
      have f2 : ∀ u, Grows wr.drew u → u.cell? (ad2.add k) = some (.int .i64 x) := fun u h => hcell_later c2 (Grows.trans hg (Grows.trans (Grows.refl wr).drew h))
      have hO := Grows.refl wr.drew
      go_wp2_with fail
      refine wp_region_ord 9 [(0, true), (1, true), (2, true), (3, true), (4, true), (5, true), (6, true), (7, true), (8, true)] (by kernel_rfl) (by kernel_rfl) ?_
      repeat (first | (refine ord_take hO _ ?_ (by simp only [List.getElem?_cons_succ, List.getElem?_cons_zero]; rfl) (by rfl) ?_ ?_; rotate_left; (· (intro u hu0 hu; (try go_simp); (try with_reducible rfl))); try simp only [Act.put, List.setIfInBounds_toArray, List.set_cons_zero, List.set_cons_succ]) | (refine ord_skip _ (by simp only [List.getElem?_cons_succ, List.getElem?_cons_zero]; rfl) (by rfl) ?_; try simp only [Act.put, List.setIfInBounds_toArray, List.set_cons_zero, List.set_cons_succ]))
      refine ord_done (fun w4 hu => ?_); simp only [List.drop_succ_cons, List.drop_zero]
      have hg4 := Grows.trans hg (Grows.trans (Grows.refl wr).drew hu)
      clear f1 f2 hO hu
      go_wp2_with fail
      refine NoPanic.normal ?_
      go_wp2_with fail
      go_roundw
      case rel => exact ⟨k + 1, by omega, by go_num, hg4⟩
      case measure => simp [intOf]; omega
    · have hkn : k = n := by omega
      subst hkn
      have d1 : decide ((k : Int) < (k : Int)) = false := by simp
      go_wp2_with fail
      go_ret
      exact ⟨rfl, hg⟩

def p222 : Prm := ⟨2, 2, 2⟩
theorem p222_ok : p222.Ok := ⟨by decide, by decide, by decide, by decide⟩
theorem chunks222 : (chunksOf p222 [97, 98, 99, 100, 101]).map List.length = [2, 2, 1] := by decide +kernel
theorem abcde_marked (w : World) : Lies (w.alloc (.cells (([97, 98, 99, 100, 101] : List UInt8).map bv).toArray 5 (5, 6))) (w.heap.size + 1) (some ⟨w.heap.size, 0, none⟩) (([97, 98, 99, 100, 101] : List UInt8).map bv) ∧
    Grows w (w.alloc (.cells (([97, 98, 99, 100, 101] : List UInt8).map bv).toArray 5 (5, 6))) := ⟨fun j u hu => ⟨_, rfl, by show w.heap.size < w.heap.size + 1; omega, by
    rw [add_plain, Nat.zero_add]
    have : (w.alloc (.cells (([97, 98, 99, 100, 101] : List UInt8).map bv).toArray 5 (5, 6))).heap[w.heap.size]? = some (.cells (([97, 98, 99, 100, 101] : List UInt8).map bv).toArray 5 (5, 6)) := World.alloc_heap_new w _
    unfold World.cell?
    rw [this]
    simpa using hu⟩, (Grows.refl w).alloc (Nat.le_refl _) _⟩
set_option maxRecDepth 20000 in
theorem lives10_any (w : World) (hs : Starts w) :
    Calls Tryd.prog 20 #[] w fun e w' => e = .returned (.bool true) ∧ Grows w w' := by
  obtain ⟨h0, g0⟩ := abcde_marked w
  have hs0 : (w.alloc (.cells (([97, 98, 99, 100, 101] : List UInt8).map bv).toArray 5 (5, 6))).heap.size = w.heap.size + 1 := by simp
  have SZ := Lib.hid (sizes_any p222 p222_ok (some ⟨w.heap.size, 0, none⟩) 5 5 [97, 98, 99, 100, 101] _ rfl (Nat.le_refl _) (h0.mono (by rw [hs0]; exact Nat.le_refl _)) (hs.later g0) (by decide))
  have hpv : pv p222 = .agg #[.int .i64 2, .int .i64 2, .int .i64 2] := rfl
  rw [hpv] at SZ
  have hcl : (chunksOf p222 [97, 98, 99, 100, 101]).length = 3 := by have := congrArg List.length chunks222; simpa using this
  have hcm : (chunksOf p222 [97, 98, 99, 100, 101]).map lenV = [2, 2, 1].map fun x => .int .i64 x := by
    have := congrArg (List.map fun n : Nat => (Value.int .i64 (n : Int))) chunks222
    rw [List.map_map] at this
    exact this
  rw [hcl, hcm] at SZ
  have hcv := Lib.run_convert_bytes_const (P := Tryd.prog) w 22 5 #[.int .u8 97, .int .u8 98, .int .u8 99, .int .u8 100, .int .u8 101] 5 5 Tryd.underlying22 Tryd.underlying5
  go_enter Tryd.func20, Tryd.ntmps20
  go_wp2_with fail
  clear hcv
  refine SZ.out.mono ?_
  rintro e w1 ⟨v, rfl, hown, hg1⟩
  obtain ⟨A, c, rfl, hc⟩ := own_form hown
  have hL := Lies.of_own hown
  have g1 := grows_alloc w1 (.cells ([2, 2, 1].map fun x => Value.int .i64 x).toArray 3)
  have hM := (Lies.new w1 3 ([2, 2, 1].map fun x => Value.int .i64 x)).mono (B' := (w1.alloc (.cells ([2, 2, 1].map fun x => Value.int .i64 x).toArray 3)).heap.size) (by simp)
  have SI := Lib.hid (sameints_eq A (some ⟨w1.heap.size, 0, none⟩) 3 c 3 [2, 2, 1] _ rfl (hL.later g1) hM (by decide))
  have hgg := Grows.trans g0 (Grows.trans hg1 g1)
  clear SZ
  go_wp2_with fail
  refine SI.out.mono ?_
  rintro e w2 ⟨rfl, hg2⟩
  have hg3 := Grows.trans hgg hg2
  go_wp2_with fail
  go_ret
  exact ⟨rfl, hg3⟩
end Go.Proofs.YtnokloedbckijaaDoor

/-
  Contract of the reference's Around: a remainder.
-/
namespace Go.Proofs.YtnokloedbckijaaDoor
open Go.RowKit
set_option linter.unusedVariables false

theorem ret_int {k : IntKind} {a b : Int} (h : a = b) : Ending.returned (.int k a) = .returned (.int k b) := by rw [h]
/-- What Around answers. -/
def around (n : Int) (m : Nat) : Nat := ((if n < 0 then -(n + 1) else n) % (m : Int)).toNat
theorem around_lt (n : Int) {m : Nat} (h : 0 < m) : around n m < m := by
  unfold around
  have h1 := Int.emod_lt_of_pos (if n < 0 then -(n + 1) else n) (show (0 : Int) < (m : Int) by omega)
  have h2 := Int.emod_nonneg (if n < 0 then -(n + 1) else n) (show (m : Int) ≠ 0 by omega)
  omega

set_option maxHeartbeats 400000 in
theorem around_any (n : Int) (m : Nat) (w : World) (hn : -9223372036854775808 ≤ n ∧ n ≤ 9223372036854775807) (hm : 0 < m ∧ m ≤ 4611686018427387904) :
    Calls Tryd.prog 29 #[.int .i64 n, .int .i64 (m : Int)] w fun e w' => e = .returned (.int .i64 (around n m : Int)) ∧ w = w' := by
  obtain ⟨n1, n2⟩ := hn
  obtain ⟨m1, m2⟩ := hm
  have hz : ((m : Int) == 0) = false := by simp; omega
  by_cases h : n < 0
  · have hr : (around n m : Int) = (-(n + 1)) % (m : Int) := by
      unfold around
      rw [if_pos h]
      have h2 := Int.emod_nonneg (-(n + 1)) (show (m : Int) ≠ 0 by omega)
      omega
    rw [hr]
    clear hr
    go_enter Tryd.func29, Tryd.ntmps29
    go_wp2
    go_ret
    exact ⟨ret_int (by rw [← Int.neg_tmod, Int.tmod_eq_emod_of_nonneg (by omega)]), rfl⟩
  · have hr : (around n m : Int) = n % (m : Int) := by
      unfold around
      rw [if_neg h]
      have h2 := Int.emod_nonneg n (show (m : Int) ≠ 0 by omega)
      omega
    rw [hr]
    clear hr
    go_enter Tryd.func29, Tryd.ntmps29
    go_wp2
    go_ret
    exact ⟨rfl, rfl⟩

end Go.Proofs.YtnokloedbckijaaDoor

/-
  The reference's Good (parameters made such as may be).
-/
namespace Go.Proofs.YtnokloedbckijaaDoor
open Go.RowKit
set_option linter.unusedVariables false
set_option maxRecDepth 20000

/-- Parameters made of any. -/
def goodP (a b c : Int) : Prm := ⟨1 + around a 12, 1 + around a 12 + around b 20, 1 + around a 12 + around b 20 + around c 40⟩
theorem goodP_ok (a b c : Int) : (goodP a b c).Ok := by
  have h1 := around_lt a (m := 12) (by decide)
  have h2 := around_lt b (m := 20) (by decide)
  have h3 := around_lt c (m := 40) (by decide)
  exact ⟨by simp [goodP], by simp [goodP], by simp [goodP], by simp only [goodP]; omega⟩
theorem goodP_mx (a b c : Int) : (goodP a b c).mx ≤ 70 := by
  have h1 := around_lt a (m := 12) (by decide)
  have h2 := around_lt b (m := 20) (by decide)
  have h3 := around_lt c (m := 40) (by decide)
  simp only [goodP]; omega
theorem prm_size : (Tryd.prog.info? 24).map (·.size) = some 3 := by kernel_rfl
theorem prm_one (a b c : Int) : ∀ v ∈ ([.int .i64 a, .int .i64 b, .int .i64 c] : List Value), v.oneCell' = true := by intro v hv; simp at hv; rcases hv with rfl | rfl | rfl <;> rfl
/-- An int of 64 bits. -/
def I64 (n : Int) : Prop := -9223372036854775808 ≤ n ∧ n ≤ 9223372036854775807
set_option maxRecDepth 20000 in
theorem good_any (a b c : Int) (w : World) (ha : I64 a) (hb : I64 b) (hc : I64 c) :
    Calls Tryd.prog 12 #[pz a b c] w fun e w' => e = .returned (pv (goodP a b c)) ∧ Grows w w' := by
  have h1 := around_lt a (m := 12) (by decide)
  have h2 := around_lt b (m := 20) (by decide)
  have h3 := around_lt c (m := 40) (by decide)
  have A1 := Lib.hid (fun u => around_any a 12 u ha (by decide))
  have A2 := Lib.hid (fun u => around_any b 20 u hb (by decide))
  have A3 := Lib.hid (fun u => around_any c 40 u hc (by decide))
  have hN := Has.new w 24 [.int .i64 a, .int .i64 b, .int .i64 c]
  have g1 := grows_alloc w (.cells [.int .i64 a, .int .i64 b, .int .i64 c].toArray 24)
  have hR := Has.new (w.alloc (.cells [.int .i64 a, .int .i64 b, .int .i64 c].toArray 24)) 24 [.int .i64 0, .int .i64 0, .int .i64 0]
  have g2 := grows_alloc (w.alloc (.cells [.int .i64 a, .int .i64 b, .int .i64 c].toArray 24)) (.cells [.int .i64 0, .int .i64 0, .int .i64 0].toArray 24)
  have hN2 := hN.later g2
  have P0 := hN2.cell (k := 0) rfl
  have P1 := hN2.cell (k := 1) rfl
  have P2 := hN2.cell (k := 2) rfl
  have hg := Grows.trans g1 g2
  rw [World.size_alloc] at hR
  have hpe : pv (goodP a b c) = .agg ([.int .i64 (1 + (around a 12 : Int)), .int .i64 (1 + (around a 12 : Int) + (around b 20 : Int)), .int .i64 (1 + (around a 12 : Int) + (around b 20 : Int) + (around c 40 : Int))] : List Value).toArray := by
    simp [pv, pz, goodP]
  rw [hpe]
  unfold pz
  generalize around a 12 = x at *
  generalize around b 20 = y at *
  generalize around c 40 = z at *
  have w1 : IntKind.i64.wrap (1 + (x : Int)) = 1 + (x : Int) := IntWalk.i64_in _ (by omega)
  have w2 : IntKind.i64.wrap (1 + (x : Int) + (y : Int)) = 1 + (x : Int) + (y : Int) := IntWalk.i64_in _ (by omega)
  have w3 : IntKind.i64.wrap (1 + (x : Int) + (y : Int) + (z : Int)) = 1 + (x : Int) + (y : Int) + (z : Int) := IntWalk.i64_in _ (by omega)
  go_enter Tryd.func12, Tryd.ntmps12
  go_wp2_with fail
  refine (A1.out _).mono ?_
  rintro e w' ⟨rfl, rfl⟩
  go_wp2_with fail
  refine (A2.out _).mono ?_
  rintro e w' ⟨rfl, rfl⟩
  go_wp2_with fail
  refine (A3.out _).mono ?_
  rintro e w' ⟨rfl, rfl⟩
  go_wp2_with (refine wpList_storev rfl 24 (.tmp 2) (.tmp 21) rfl (w.heap.size + 1) _ [.int .i64 (1 + (x : Int)), .int .i64 (1 + (x : Int) + (y : Int)), .int .i64 (1 + (x : Int) + (y : Int) + (z : Int))] 3 rfl rfl hR rfl rfl prm_size (prm_one _ _ _) ?_; intro w6 hbox6 hbel6)
  have hfin := hbel6 _ _ (by omega) hg
  refine bodyPost_ret (res_has (vs := [.int .i64 (1 + (x : Int)), .int .i64 (1 + (x : Int) + (y : Int)), .int .i64 (1 + (x : Int) + (y : Int) + (z : Int))]) Tryd.results12 _ rfl Tryd.underlying24 rfl prm_size hbox6) rfl ⟨rfl, hfin⟩
end Go.Proofs.YtnokloedbckijaaDoor

/-
  CRC-32C as functions of numbers and lists (of no program): a step, a byte, bytes; all are linear, and no two numbers have one step.
-/
namespace Go.Proofs.YtnokloedbckijaaDoor
set_option linter.unusedVariables false

/-- A step of a number. -/
def cstep (n : Nat) : Nat := if n % 2 = 1 then n / 2 ^^^ 2197175160 else n / 2
def csteps : Nat → Nat → Nat
  | 0, n => n
  | k + 1, n => csteps k (cstep n)
/-- A byte: changed by it, then eight steps. -/
def cbyte (n : Nat) (b : UInt8) : Nat := csteps 8 (n ^^^ b.toNat)
def cbytes (n : Nat) (l : List UInt8) : Nat := l.foldl cbyte n
/-- k bytes 0. -/
def czeros : Nat → Nat → Nat
  | 0, n => n
  | k + 1, n => czeros k (csteps 8 n)
/-- The check of bytes behind others whose check is s. -/
def cmore (s : Nat) (l : List UInt8) : Nat := 4294967295 - cbytes (4294967295 - s) l
def crcOf (l : List UInt8) : Nat := cmore 0 l

theorem half_xor (x y : Nat) : (x ^^^ y) / 2 = x / 2 ^^^ y / 2 := by
  have h : ∀ a : Nat, a / 2 = a >>> 1 := fun a => by rw [Nat.shiftRight_eq_div_pow]
  rw [h, h, h, Nat.shiftRight_xor_distrib]
theorem odd_xor (x y : Nat) : (x ^^^ y) % 2 = (x % 2 + y % 2) % 2 := by
  have h := Nat.xor_mod_two_pow (a := x) (b := y) (n := 1)
  rw [show (2 : Nat) ^ 1 = 2 from rfl] at h
  rw [h]
  rcases Nat.mod_two_eq_zero_or_one x with hx | hx <;> rcases Nat.mod_two_eq_zero_or_one y with hy | hy <;> rw [hx, hy] <;> rfl
theorem cstep_xor (x y : Nat) : cstep (x ^^^ y) = cstep x ^^^ cstep y := by
  have ho := odd_xor x y
  unfold cstep
  rw [half_xor]
  have hx := Nat.mod_two_eq_zero_or_one x
  have hy := Nat.mod_two_eq_zero_or_one y
  rcases hx with hx | hx <;> rcases hy with hy | hy <;> rw [hx, hy] at ho <;> simp only [ho, hx, hy] <;> simp
  · exact Nat.xor_assoc _ _ _
  · rw [Nat.xor_assoc, Nat.xor_comm (y / 2), ← Nat.xor_assoc]
  · have : ∀ a b p : Nat, a ^^^ b = (a ^^^ p) ^^^ (b ^^^ p) := fun a b p => by
      rw [Nat.xor_assoc, ← Nat.xor_assoc p, Nat.xor_comm p b, Nat.xor_assoc b, Nat.xor_self, Nat.xor_zero]
    exact this _ _ _
theorem cstep_lt {n : Nat} (h : n < 4294967296) : cstep n < 4294967296 := by
  unfold cstep
  split
  · exact Nat.xor_lt_two_pow (n := 32) (by omega) (by decide)
  · omega
theorem csteps_xor : ∀ k x y, csteps k (x ^^^ y) = csteps k x ^^^ csteps k y
  | 0, _, _ => rfl
  | k + 1, x, y => by rw [csteps, cstep_xor, csteps_xor k]; rfl
theorem csteps_lt : ∀ k {n}, n < 4294967296 → csteps k n < 4294967296
  | 0, _, h => h
  | k + 1, _, h => csteps_lt k (cstep_lt h)
theorem cbyte_lt {n : Nat} (h : n < 4294967296) (b : UInt8) : cbyte n b < 4294967296 :=
  csteps_lt 8 (Nat.xor_lt_two_pow (n := 32) h (by have := b.toNat_lt; omega))
theorem cbytes_lt : ∀ (l : List UInt8) {n : Nat}, n < 4294967296 → cbytes n l < 4294967296
  | [], _, h => h
  | b :: r, _, h => cbytes_lt r (cbyte_lt h b)
theorem czeros_lt : ∀ k {n}, n < 4294967296 → czeros k n < 4294967296
  | 0, _, h => h
  | k + 1, _, h => czeros_lt k (csteps_lt 8 h)
theorem czeros_xor : ∀ k x y, czeros k (x ^^^ y) = czeros k x ^^^ czeros k y
  | 0, _, _ => rfl
  | k + 1, x, y => by rw [czeros, csteps_xor, czeros_xor k]; rfl
theorem cbytes_append (n : Nat) (l r : List UInt8) : cbytes n (l ++ r) = cbytes (cbytes n l) r := by simp [cbytes]
theorem cbytes_cons (n : Nat) (b : UInt8) (r : List UInt8) : cbytes n (b :: r) = cbytes (cbyte n b) r := rfl
/-- Bytes behind a number that is changed by z. -/
theorem cbytes_xor : ∀ (l : List UInt8) (x z : Nat), cbytes (x ^^^ z) l = cbytes x l ^^^ czeros l.length z
  | [], _, _ => rfl
  | b :: r, x, z => by
    rw [cbytes_cons, cbytes_cons]
    have : cbyte (x ^^^ z) b = cbyte x b ^^^ csteps 8 z := by
      unfold cbyte
      rw [Nat.xor_assoc, Nat.xor_comm z, ← Nat.xor_assoc, csteps_xor]
    rw [this, cbytes_xor r]
    rfl
/-- All bits turned. -/
theorem turn_xor {s : Nat} (h : s < 4294967296) : 4294967295 - s = 4294967295 ^^^ s := by
  have h1 : (BitVec.allOnes 32 ^^^ BitVec.ofNat 32 s).toNat = 4294967295 - s := by
    rw [BitVec.allOnes_xor, BitVec.toNat_not, BitVec.toNat_ofNat, Nat.mod_eq_of_lt (by omega)]
  rw [← h1, BitVec.toNat_xor, BitVec.toNat_ofNat, Nat.mod_eq_of_lt (by omega)]
  rfl
theorem cmore_lt {s : Nat} (h : s < 4294967296) (l : List UInt8) : cmore s l < 4294967296 := by unfold cmore; omega
theorem cmore_nil {s : Nat} (h : s < 4294967296) : cmore s [] = s := by unfold cmore cbytes; simp; omega
theorem cmore_append {s : Nat} (h : s < 4294967296) (l r : List UInt8) : cmore s (l ++ r) = cmore (cmore s l) r := by
  have hb := cbytes_lt l (n := 4294967295 - s) (by omega)
  unfold cmore
  rw [cbytes_append]
  congr 2
  omega
/-- THE JOIN: what goes on behind a check is the check of what comes, changed by the first that went on by bytes 0. -/
theorem cmore_join {s : Nat} (h : s < 4294967296) (l : List UInt8) : cmore s l = czeros l.length s ^^^ crcOf l := by
  have h0 : (4294967295 : Nat) < 4294967296 := by decide
  have h1 : 4294967295 - s = (4294967295 - 0) ^^^ s := by rw [Nat.sub_zero]; exact turn_xor h
  have h2 := cbytes_lt l (n := 4294967295) h0
  unfold crcOf cmore
  rw [h1, cbytes_xor, Nat.sub_zero, turn_xor h2, turn_xor (Nat.xor_lt_two_pow (n := 32) h2 (czeros_lt _ h)), ← Nat.xor_assoc, Nat.xor_comm]

/-- No two numbers have one step. -/
theorem cstep_inj {x y : Nat} (hx : x < 4294967296) (hy : y < 4294967296) (h : cstep x = cstep y) : x = y := by
  have key : ∀ n : Nat, n < 4294967296 → (cstep n).testBit 31 = decide (n % 2 = 1) := fun n hn => by
    unfold cstep
    have hb : (n / 2).testBit 31 = false := Nat.testBit_lt_two_pow (by omega)
    split
    · rename_i ho
      rw [Nat.testBit_xor, hb, ho]
      decide
    · rename_i ho
      rw [hb, decide_eq_false ho]
  have h1 : decide (x % 2 = 1) = decide (y % 2 = 1) := by rw [← key x hx, ← key y hy, h]
  have h2 : x % 2 = 1 ↔ y % 2 = 1 := by simpa using h1
  unfold cstep at h
  by_cases ho : x % 2 = 1
  · rw [if_pos ho, if_pos (h2.1 ho)] at h
    have h3 : x / 2 = y / 2 := by
      have := congrArg (· ^^^ 2197175160) h
      simpa [Nat.xor_assoc] using this
    omega
  · rw [if_neg ho, if_neg (fun e => ho (h2.2 e))] at h
    omega
theorem csteps_inj : ∀ k {x y : Nat}, x < 4294967296 → y < 4294967296 → csteps k x = csteps k y → x = y
  | 0, _, _, _, _, h => h
  | k + 1, _, _, hx, hy, h => cstep_inj hx hy (csteps_inj k (cstep_lt hx) (cstep_lt hy) h)
theorem xor_right_inj {a x y : Nat} (h : x ^^^ a = y ^^^ a) : x = y := by
  have := congrArg (· ^^^ a) h
  simpa [Nat.xor_assoc] using this
theorem xor_left_inj {a x y : Nat} (h : a ^^^ x = a ^^^ y) : x = y := by
  rw [Nat.xor_comm a, Nat.xor_comm a] at h
  exact xor_right_inj h
theorem cbyte_inj {x y : Nat} (hx : x < 4294967296) (hy : y < 4294967296) {b : UInt8} (h : cbyte x b = cbyte y b) : x = y := by
  have hb := b.toNat_lt
  exact xor_right_inj (csteps_inj 8 (Nat.xor_lt_two_pow (n := 32) hx (by omega)) (Nat.xor_lt_two_pow (n := 32) hy (by omega)) h)
theorem cbyte_byte_inj {x : Nat} (hx : x < 4294967296) {b c : UInt8} (h : cbyte x b = cbyte x c) : b = c := by
  have hb := b.toNat_lt
  have hc := c.toNat_lt
  exact UInt8.toNat_inj.1 (xor_left_inj (csteps_inj 8 (Nat.xor_lt_two_pow (n := 32) hx (by omega)) (Nat.xor_lt_two_pow (n := 32) hx (by omega)) h))
theorem cbytes_inj : ∀ (l : List UInt8) {x y : Nat}, x < 4294967296 → y < 4294967296 → cbytes x l = cbytes y l → x = y
  | [], _, _, _, _, h => h
  | b :: r, _, _, hx, hy, h => cbyte_inj hx hy (cbytes_inj r (cbyte_lt hx b) (cbyte_lt hy b) h)
/-- Texts that part in one byte have other checks. -/
theorem crc_differs (l r : List UInt8) (b c : UInt8) (h : b ≠ c) : crcOf (l ++ b :: r) ≠ crcOf (l ++ c :: r) := by
  intro he
  have h0 : (4294967295 : Nat) < 4294967296 := by decide
  have h1 := cbytes_lt (l ++ b :: r) h0
  have h2 := cbytes_lt (l ++ c :: r) h0
  have h3 : cbytes 4294967295 (l ++ b :: r) = cbytes 4294967295 (l ++ c :: r) := by
    unfold crcOf cmore at he
    rw [Nat.sub_zero] at he
    omega
  rw [cbytes_append, cbytes_append, cbytes_cons, cbytes_cons] at h3
  have h4 := cbytes_lt l h0
  exact h (cbyte_byte_inj h4 (cbytes_inj r (cbyte_lt h4 b) (cbyte_lt h4 c) h3))
set_option maxRecDepth 10000 in
theorem crc_nine : crcOf [49, 50, 51, 52, 53, 54, 55, 56, 57] = 3808858755 := by decide +kernel
end Go.Proofs.YtnokloedbckijaaDoor

/-
  Contracts of crc's step, More and Sum, and of the reference's More.
-/
namespace Go.Proofs.YtnokloedbckijaaDoor
open Go.RowKit
set_option linter.unusedVariables false

theorem ret_w32 {a b : Int} (h : a = b) : Ending.returned (.int .u32 a) = .returned (.int .u32 b) := by rw [h]
theorem w32_not (a : Nat) (ha : a < 4294967296) : bits .xor .u32 (if IntKind.u32.signed = true then -1 else IntKind.u32.max) (a : Int) = ((4294967295 - a : Nat) : Int) := by
  show IntKind.u32.wrap ((BitVec.ofInt 32 (if IntKind.u32.signed = true then -1 else IntKind.u32.max) ^^^ BitVec.ofInt 32 (a : Int)).toNat : Int) = _
  have h1 : BitVec.ofInt 32 (if IntKind.u32.signed = true then -1 else IntKind.u32.max) = BitVec.allOnes 32 := by decide
  rw [h1, BitVec.allOnes_xor, BitVec.toNat_not, ofInt_u32 a ha, IntKind.wrap_u32']
  omega
theorem csteps_succ : ∀ k n, csteps (k + 1) n = cstep (csteps k n)
  | 0, _ => rfl
  | k + 1, n => by rw [csteps, csteps_succ k, csteps]
theorem cbytes_take (n : Nat) (l : List UInt8) (k : Nat) (b : UInt8) (h : l[k]? = some b) : cbytes n (l.take (k + 1)) = cbyte (cbytes n (l.take k)) b := by
  rw [List.take_add_one, h]
  simp [cbytes]

set_option maxHeartbeats 400000 in
theorem cstep_any (x b : Nat) (w : World) (hx : x < 4294967296) (hc : w.cell? ⟨b, 0, none⟩ = some (uv 2197175160)) :
    Calls Tryd.prog 122 #[uv x, .pointer (some ⟨b, 0, none⟩)] w fun e w' => e = .returned (uv (cstep x)) ∧ w = w' := by
  have ha : bits .and .u32 (x : Int) 1 = ((x % 2 : Nat) : Int) := by
    have := u32_and_nat x 1 hx (by omega)
    rw [Nat.and_one_is_mod] at this
    exact this
  have hxo := Lib.hid (show bits .xor .u32 ((x : Int) / 2) 2197175160 = ((x / 2 ^^^ 2197175160 : Nat) : Int) from u32_xor_nat (x / 2) 2197175160 (by omega) (by omega))
  by_cases h : x % 2 = 1
  · rw [h] at ha
    have hs : cstep x = x / 2 ^^^ 2197175160 := by unfold cstep; rw [if_pos h]
    rw [hs]
    clear hs h
    go_enter Tryd.func122, Tryd.ntmps122
    go_wp2
    go_ret
    exact ⟨ret_w32 hxo.out, rfl⟩
  · rw [show x % 2 = 0 by omega] at ha
    have hs : cstep x = x / 2 := by unfold cstep; rw [if_neg h]
    rw [hs]
    clear hs h
    go_enter Tryd.func122, Tryd.ntmps122
    go_wp2
    go_ret
    exact ⟨rfl, rfl⟩

set_option maxHeartbeats 400000 in
theorem stepBy_any (w : World) : Calls Tryd.prog 114 #[uv 2197175160] w fun e w' => ∃ b, e = .returned (.func (.func 122) #[] #[.pointer (some ⟨b, 0, none⟩)]) ∧ w'.cell? ⟨b, 0, none⟩ = some (uv 2197175160) ∧ Grows w w' := by
  have hh := (Has.new w 93 [uv 2197175160]).cell (k := 0) rfl
  have hg := grows_alloc w (.cells #[uv 2197175160] 93)
  go_enter Tryd.func114, Tryd.ntmps114
  go_wp2
  go_ret
  exact ⟨_, rfl, hh, hg⟩

set_option maxHeartbeats 1000000 in
theorem crcmore_any (s : Nat) (A : Option Addr) (n c : Nat) (bs : List UInt8) (w : World) (hs : s < 4294967296) (hl : bs.length = n) (hr : Lies w w.heap.size A (bs.map bv)) (hn : n ≤ 1000000000000) :
    Calls Tryd.prog 97 #[uv s, .slice A n c] w fun e w' => e = .returned (uv (cmore s bs)) ∧ Grows w w' := by
  have hnot := Lib.hid (w32_not s hs)
  have HL := Lib.hid hl
  clear hl
  go_enter Tryd.func97, Tryd.ntmps97
  go_wp2_with fail
  refine (stepBy_any w).mono ?_
  rintro e w1 ⟨bk, rfl, hck, hg1⟩
  have hn0 := hnot.out
  have hr1 := hr.later hg1
  clear hr
  go_wp2
  go_loop [6, 13] (fun x i => ∃ k : Nat, k ≤ n ∧ i = .int .i64 k ∧ x = uv (cbytes (4294967295 - s) (bs.take k))) (fun _ i => n - (intOf i).toNat)
  case atStart => exact ⟨0, Nat.zero_le _, rfl, by simp [cbytes]⟩
  case round =>
    obtain ⟨k, hk, rfl, rfl⟩ := hrel
    have hb := cbytes_lt (bs.take k) (n := 4294967295 - s) (by omega)
    by_cases hlt : k < n
    · obtain ⟨b, hbk⟩ : ∃ b, bs[k]? = some b := ⟨_, List.getElem?_eq_getElem (by rw [HL.out]; exact hlt)⟩
      obtain ⟨ad, rfl, _, cx⟩ := hr1.at_ (j := k) (u := bv b) (by rw [List.getElem?_map, hbk]; rfl)
      have HT := Lib.hid (cbytes_take (4294967295 - s) bs k b hbk)
      clear hbk
      generalize cbytes (4294967295 - s) (bs.take k) = x at *
      have hb8 := b.toNat_lt
      have hxo : bits .xor .u32 (x : Int) (b.toNat : Int) = ((x ^^^ b.toNat : Nat) : Int) := u32_xor_nat x b.toNat hb (by omega)
      have hy : x ^^^ b.toNat < 4294967296 := Nat.xor_lt_two_pow (n := 32) hb (by omega)
      have HC : Hid (cbyte x b = csteps 8 (x ^^^ b.toNat)) := rfl
      generalize hyy : x ^^^ b.toNat = y at *
      clear hyy
      go_wp2
      go_loop [6, 23] (fun x j => ∃ m : Nat, m ≤ 8 ∧ j = .int .i64 m ∧ x = uv (csteps m y)) (fun _ j => 8 - (intOf j).toNat)
      case atStart => exact ⟨0, by omega, rfl, rfl⟩
      case round =>
        obtain ⟨m, hm, rfl, rfl⟩ := hrel
        by_cases hmt : m < 8
        · have hz := csteps_lt m hy
          have hS := Lib.hid (csteps_succ m y)
          generalize csteps m y = z at *
          go_wp2_with fail
          refine (cstep_any z bk w1 hz hck).mono ?_
          rintro e w2 ⟨rfl, rfl⟩
          go_wp2
          go_round
          case rel => exact ⟨m + 1, by omega, by go_num, by rw [hS.out]⟩
          case measure => simp [intOf]; omega
        · obtain rfl : m = 8 := by omega
          go_wp2
          go_round
          case rel => exact ⟨k + 1, by omega, by go_num, by rw [HT.out, HC.out]⟩
          case measure => simp [intOf]; omega
    · obtain rfl : k = n := by omega
      have e1 := Lib.hid (w32_not _ hb)
      have e2 : bs.take k = bs := List.take_of_length_le (by rw [HL.out]; exact Nat.le_refl _)
      rw [e2] at e1
      go_wp2
      go_ret
      exact ⟨ret_w32 e1.out, hg1⟩

set_option maxHeartbeats 400000 in
theorem crcsum_any (A : Option Addr) (n c : Nat) (bs : List UInt8) (w : World) (hl : bs.length = n) (hr : Lies w w.heap.size A (bs.map bv)) (hn : n ≤ 1000000000000) :
    Calls Tryd.prog 81 #[.slice A n c] w fun e w' => e = .returned (uv (crcOf bs)) ∧ Grows w w' := by
  have HL := Lib.hid hl
  clear hl
  go_enter Tryd.func81, Tryd.ntmps81
  go_wp2_with fail
  refine (crcmore_any 0 A n c bs w (by omega) HL.out hr hn).mono ?_
  rintro e w1 ⟨rfl, hg1⟩
  go_wp2_with fail
  go_ret
  exact ⟨rfl, hg1⟩

set_option maxHeartbeats 1000000 in
/-- The reference's More. -/
theorem rmore_any (s : Nat) (A : Option Addr) (n c : Nat) (bs : List UInt8) (w : World) (hs : s < 4294967296) (hl : bs.length = n) (hr : Lies w w.heap.size A (bs.map bv)) (hn : n ≤ 1000000000000) :
    Calls Tryd.prog 57 #[uv s, .slice A n c] w fun e w' => e = .returned (uv (cmore s bs)) ∧ w = w' := by
  have HL := Lib.hid hl
  clear hl
  have hs1 : (0 : Int) ≤ 4294967295 - (s : Int) := by omega
  have hs2 : IntKind.u32.wrap (4294967295 - (s : Int)) = ((4294967295 - s : Nat) : Int) := by rw [IntKind.wrap_u32']; omega
  go_enter Tryd.func57, Tryd.ntmps57
  go_wp2
  go_loop [5, 6, 7] (fun x i _ => ∃ k : Nat, k ≤ n ∧ i = .int .i64 k ∧ x = uv (cbytes (4294967295 - s) (bs.take k))) (fun _ i _ => n - (intOf i).toNat)
  case atStart => exact ⟨0, Nat.zero_le _, rfl, by simp [cbytes]⟩
  case round =>
    obtain ⟨k, hk, rfl, rfl⟩ := hrel
    have hb := cbytes_lt (bs.take k) (n := 4294967295 - s) (by omega)
    by_cases hlt : k < n
    · obtain ⟨b, hbk⟩ : ∃ b, bs[k]? = some b := ⟨_, List.getElem?_eq_getElem (by rw [HL.out]; exact hlt)⟩
      obtain ⟨ad, rfl, _, cx⟩ := hr.at_ (j := k) (u := bv b) (by rw [List.getElem?_map, hbk]; rfl)
      have HT := Lib.hid (cbytes_take (4294967295 - s) bs k b hbk)
      clear hbk
      generalize cbytes (4294967295 - s) (bs.take k) = x at *
      have hb8 := b.toNat_lt
      have hxo : bits .xor .u32 (x : Int) (b.toNat : Int) = ((x ^^^ b.toNat : Nat) : Int) := u32_xor_nat x b.toNat hb (by omega)
      have hy : x ^^^ b.toNat < 4294967296 := Nat.xor_lt_two_pow (n := 32) hb (by omega)
      have HC : Hid (cbyte x b = csteps 8 (x ^^^ b.toNat)) := rfl
      generalize hyy : x ^^^ b.toNat = y at *
      clear hyy
      go_wp2
      go_loop [5, 7] (fun x j => ∃ m : Nat, m ≤ 8 ∧ j = .int .i64 m ∧ x = uv (csteps m y)) (fun _ j => 8 - (intOf j).toNat)
      case atStart => exact ⟨0, by omega, rfl, rfl⟩
      case round =>
        obtain ⟨m, hm, rfl, rfl⟩ := hrel
        by_cases hmt : m < 8
        · have hz := csteps_lt m hy
          have hS := Lib.hid (csteps_succ m y)
          generalize csteps m y = z at *
          by_cases ho : z % 2 = 1
          · have hzo : bits .xor .u32 ((z : Int) / 2) 2197175160 = ((z / 2 ^^^ 2197175160 : Nat) : Int) := u32_xor_nat (z / 2) 2197175160 (by omega) (by omega)
            have hs : cstep z = z / 2 ^^^ 2197175160 := by unfold cstep; rw [if_pos ho]
            have HS := Lib.hid hs
            clear hs
            go_wp2
            go_round
            case rel => exact ⟨m + 1, by omega, by go_num, by rw [hS.out, HS.out]⟩
            case measure => simp [intOf]; omega
          · have hs : cstep z = z / 2 := by unfold cstep; rw [if_neg ho]
            have HS := Lib.hid hs
            clear hs
            go_wp2
            go_round
            case rel => exact ⟨m + 1, by omega, by go_num, by rw [hS.out, HS.out]; rfl⟩
            case measure => simp [intOf]; omega
        · obtain rfl : m = 8 := by omega
          go_wp2
          go_round
          case rel => exact ⟨k + 1, by omega, by go_num, by rw [HT.out, HC.out]⟩
          case measure => simp [intOf]; omega
    · obtain rfl : k = n := by omega
      have e2 : bs.take k = bs := List.take_of_length_le (by rw [HL.out]; exact Nat.le_refl _)
      rw [e2] at hb
      have e3 : IntKind.u32.wrap (4294967295 - (cbytes (4294967295 - s) bs : Int)) = ((cmore s bs : Nat) : Int) := by rw [IntKind.wrap_u32']; unfold cmore; omega
      go_wp2
      go_ret
      exact ⟨ret_w32 (by first | exact e3 | (unfold cmore; omega)), rfl⟩
end Go.Proofs.YtnokloedbckijaaDoor

/-
  Contracts of crc's Put, number and Take, and of the reference's Put and Take.
-/
namespace Go.Proofs.YtnokloedbckijaaDoor
open Go.RowKit
set_option linter.unusedVariables false
set_option maxRecDepth 20000

/-- Four bytes of a number, the lowest one first. -/
def fourC (s : Nat) : List UInt8 := (List.range 4).map fun k => UInt8.ofNat (s / 2 ^ (8 * k))
theorem four_len (s : Nat) : (fourC s).length = 4 := by simp [fourC]
theorem four_take (s k : Nat) (hk : k < 4) : (fourC s).take (k + 1) = (fourC s).take k ++ [UInt8.ofNat (s / 2 ^ (8 * k))] := by
  rw [List.take_add_one]
  simp [fourC, hk]

set_option maxHeartbeats 1000000 in
theorem cput_any (A : Option Addr) (n c : Nat) (bs : List UInt8) (w : World) (hl : bs.length = n) (hr : Lies w w.heap.size A (bs.map bv)) (hn : n ≤ 1000000000000) :
    Calls Tryd.prog 54 #[.slice A n c] w fun e w' => ∃ v, e = .returned v ∧ w'.ownsRow w.heap.size 5 1 v (n + 4) ((bs ++ fourC (crcOf bs)).map bv) ∧ Grows w w' := by
  obtain ⟨i0, hi0, hz0, hz1, hz2⟩ := info_parts byte_info
  have HL := Lib.hid hl
  clear hl
  have hs := cmore_lt (s := 0) (by omega) bs
  go_enter Tryd.func54, Tryd.ntmps54
  go_wp2_with (first
    | (at_make; refine wpList_make_room _ rfl _ _ _ rfl w.heap.size 5 i0 _ Tryd.underlying22 hi0 hz0 hz1 rfl .i64 .i64 _ _ n (n + 4) rfl rfl (by omega) (by omega) (by omega) (by rw [hz2]; omega) (by unfold maxLen; omega) (Nat.le_refl _) ?_; intro w1 hown1 hg1 hsz1)
    | (refine wpList_copy_row rfl (.tmp 12) (.tmp 13) 22 22 rfl 5 Tryd.underlying22 (by rw [hi0]; exact congrArg some hz1) w.heap.size (.slice (some ⟨w.heap.size, 0, none⟩) n (n + 4)) n _ rfl hown1 w.heap.size A n c (bs.map bv) rfl (by rw [List.length_map]; exact HL.out) (hr.below hg1) (bv_one bs) w hg1 ?_; intro w2 hown2 hg2 hsz2))
  have e1 : (bs.map bv).take n ++ (List.replicate n (Value.int .u8 0)).drop n = bs.map bv := by
    rw [List.take_of_length_le (by rw [List.length_map, HL.out]; exact Nat.le_refl _)]; simp
  rw [e1] at hown2
  clear e1
  refine (crcsum_any A n c bs w2 HL.out (hr.later hg2) hn).mono ?_
  rintro e w3 ⟨rfl, hg3⟩
  have hown3 := own_later hown2 hg3
  have hg13 := Grows.trans hg2 hg3
  clear hown1 hown2 hg1 hg2 hg3 hsz1 hsz2 hr
  have hs' : crcOf bs < 4294967296 := hs
  generalize hsx : crcOf bs = s at *
  have HSX := Lib.hid hsx
  clear hsx
  go_wp2_with fail
  go_loopw [3, 17] (fun v i wr => ∃ k : Nat, k ≤ 4 ∧ i = .int .i64 k ∧ wr.ownsRow w.heap.size 5 1 v (n + k) ((bs ++ (fourC s).take k).map bv) ∧ Grows w wr) (fun _ i _ => 4 - (intOf i).toNat)
  case atStart => exact ⟨0, by omega, rfl, by simpa using hown3, hg13⟩
  case round =>
    clear hown3 hg13
    obtain ⟨k, hk, rfl, hown, hgr⟩ := hrel
    by_cases hlt : k < 4
    · have HF := Lib.hid (four_take s k hlt)
      have hnew := Lies.new wr 5 [bv (UInt8.ofNat (s / 2 ^ (8 * k)))]
      go_wp2_with (at_builtin; refine wpList_append_src _ rfl (.tmp 20) (.tmp 26) _ rfl w.heap.size 5 i0 _ 1 Tryd.underlying22 hi0 hz0 hz1 hz2 rfl _ (n + k) _ rfl (hown.alloc _) _ _ 1 1 [bv (UInt8.ofNat (s / 2 ^ (8 * k)))] rfl rfl hnew (by simp [Value.oneCell']) (by unfold maxLen; omega) (by omega) (by rw [World.size_alloc]; have := hgr.size; omega) ?_; intro v' w' hown' hg' hat')
      have hb2 : Below w.heap.size wr w' := ((Below.refl _ wr).alloc hgr.size _).grown hg' (by rw [World.size_alloc]; have := hgr.size; omega) (own_ge hown)
      rw [show [bv (UInt8.ofNat (s / 2 ^ (8 * k)))] = [UInt8.ofNat (s / 2 ^ (8 * k))].map bv from rfl, ← List.map_append, List.append_assoc, ← HF.out] at hown'
      go_roundw
      case rel => exact ⟨k + 1, by omega, by go_num, hown', Below.trans hgr hb2⟩
      case measure => simp [intOf]; omega
    · obtain rfl : k = 4 := by omega
      go_wp2
      go_ret
      rw [List.take_of_length_le (by rw [four_len]; exact Nat.le_refl _)] at hown
      exact ⟨_, rfl, by rw [HSX.out]; exact hown, hgr⟩

/-- What fourC bytes tell, as far as k. -/
def numTo (l : List UInt8) : Nat → Nat
  | 0 => 0
  | k + 1 => numTo l k + (l.getD k 0).toNat * 2 ^ (8 * k)
theorem numTo_lt (l : List UInt8) : ∀ k, numTo l k < 2 ^ (8 * k)
  | 0 => by simp [numTo]
  | k + 1 => by
    have ih := numTo_lt l k
    have hb := (l.getD k 0).toNat_lt
    rw [numTo, show 8 * (k + 1) = 8 * k + 8 by omega, Nat.pow_add]
    generalize (l.getD k 0).toNat = b at *
    generalize 2 ^ (8 * k) = p at *
    have : b * p ≤ 255 * p := Nat.mul_le_mul_right _ (by omega)
    omega

theorem or_place (x b k : Nat) (hk : k < 4) (hx : x < 2 ^ (8 * k)) (hb : b < 256) : bits .or .u32 (x : Int) ((b : Int) * 2 ^ (8 * k) % 4294967296) = ((x + b * 2 ^ (8 * k) : Nat) : Int) := by
  have hp : 2 ^ (8 * k) * 256 ≤ 4294967296 := by
    have : 2 ^ (8 * k) * 256 = 2 ^ (8 * k + 8) := by rw [Nat.pow_add]
    rw [this]
    exact Nat.pow_le_pow_right (n := 2) (by omega) (show 8 * k + 8 ≤ 32 by omega)
  have h1 : b * 2 ^ (8 * k) < 4294967296 := by
    have : b * 2 ^ (8 * k) ≤ 255 * 2 ^ (8 * k) := Nat.mul_le_mul_right _ (by omega)
    have : 0 < 2 ^ (8 * k) := Nat.two_pow_pos _
    omega
  have e1 : (b : Int) * 2 ^ (8 * k) % 4294967296 = ((b * 2 ^ (8 * k) : Nat) : Int) := by
    have : (b : Int) * 2 ^ (8 * k) = ((b * 2 ^ (8 * k) : Nat) : Int) := by simp
    rw [this]
    omega
  have h2 : x < 4294967296 := by omega
  rw [e1, u32_or_nat _ _ h2 h1]
  congr 1
  rw [Nat.or_comm, ← Nat.shiftLeft_eq, ← Nat.shiftLeft_add_eq_or_of_lt hx, Nat.add_comm]

set_option maxHeartbeats 1000000 in
theorem number_any (A : Option Addr) (c : Nat) (l : List UInt8) (w : World) (hl : l.length = 4) (hr : Lies w w.heap.size A (l.map bv)) :
    Calls Tryd.prog 82 #[.slice A 4 c] w fun e w' => e = .returned (uv (numTo l 4)) ∧ w = w' := by
  have HL := Lib.hid hl
  clear hl
  go_enter Tryd.func82, Tryd.ntmps82
  go_wp2
  go_loop [3, 5] (fun x i => ∃ k : Nat, k ≤ 4 ∧ i = .int .i64 k ∧ x = uv (numTo l k)) (fun _ i => 4 - (intOf i).toNat)
  case atStart => exact ⟨0, by omega, rfl, rfl⟩
  case round =>
    obtain ⟨k, hk, rfl, rfl⟩ := hrel
    by_cases hlt : k < 4
    · obtain ⟨b, hbk⟩ : ∃ b, l[k]? = some b := ⟨_, List.getElem?_eq_getElem (by rw [HL.out]; exact hlt)⟩
      obtain ⟨ad, rfl, _, cx⟩ := hr.at_ (j := k) (u := bv b) (by rw [List.getElem?_map, hbk]; rfl)
      have HS : Hid (numTo l (k + 1) = numTo l k + b.toNat * 2 ^ (8 * k)) := by show _ = _; rw [numTo, List.getD, hbk]; rfl
      have hx := numTo_lt l k
      clear hbk
      generalize numTo l k = x at *
      have hb8 := b.toNat_lt
      go_wp2
      go_round
      case rel => exact ⟨k + 1, by omega, by go_num, by rw [HS.out, or_place x b.toNat k hlt hx hb8]⟩
      case measure => simp [intOf]; omega
    · obtain rfl : k = 4 := by omega
      go_wp2
      go_ret
      exact ⟨rfl, rfl⟩

theorem num_inj (l : List UInt8) (s : Nat) (hl : l.length = 4) (hs : s < 4294967296) : numTo l 4 = s ↔ l = fourC s := by
  match l, hl with
  | [a, b, c, d], _ =>
    have ha := a.toNat_lt
    have hb := b.toNat_lt
    have hc := c.toNat_lt
    have hd := d.toNat_lt
    have e1 : numTo [a, b, c, d] 4 = a.toNat + b.toNat * 256 + c.toNat * 65536 + d.toNat * 16777216 := by simp [numTo]
    have e2 : fourC s = [UInt8.ofNat s, UInt8.ofNat (s / 256), UInt8.ofNat (s / 65536), UInt8.ofNat (s / 16777216)] := by simp [fourC, List.range, List.range.loop]
    rw [e1, e2]
    constructor
    · intro h
      have g1 : a = UInt8.ofNat s := by apply UInt8.toNat_inj.1; rw [UInt8.toNat_ofNat']; omega
      have g2 : b = UInt8.ofNat (s / 256) := by apply UInt8.toNat_inj.1; rw [UInt8.toNat_ofNat']; omega
      have g3 : c = UInt8.ofNat (s / 65536) := by apply UInt8.toNat_inj.1; rw [UInt8.toNat_ofNat']; omega
      have g4 : d = UInt8.ofNat (s / 16777216) := by apply UInt8.toNat_inj.1; rw [UInt8.toNat_ofNat']; omega
      rw [g1, g2, g3, g4]
    · intro h
      injection h with h1 h
      injection h with h2 h
      injection h with h3 h
      injection h with h4 h
      subst h1 h2 h3 h4
      simp only [UInt8.toNat_ofNat']
      omega

theorem number_g (A : Option Addr) (c : Nat) {x : Nat} {l : List UInt8} (hx : Hid (numTo l 4 = x)) (w : World) (hl : l.length = 4) (hr : Lies w w.heap.size A (l.map bv)) :
    Calls Tryd.prog 82 #[.slice A 4 c] w fun e w' => e = .returned (uv x) ∧ Grows w w' := by
  have h := hx.out
  subst h
  exact (number_any A c l w hl hr).mono fun e w' ⟨he, hw⟩ => ⟨he, by subst hw; exact Grows.refl _⟩
theorem sum_g (A : Option Addr) (n c : Nat) {s : Nat} {l : List UInt8} (hx : Hid (crcOf l = s)) (w : World) (hl : l.length = n) (hr : Lies w w.heap.size A (l.map bv)) (hn : n ≤ 1000000000000) :
    Calls Tryd.prog 81 #[.slice A n c] w fun e w' => e = .returned (uv s) ∧ Grows w w' := by
  have h := hx.out
  subst h
  exact crcsum_any A n c l w hl hr hn

/-- What Take answers: the bytes, and the error's number. -/
def takeOf (l : List UInt8) : List UInt8 × Nat :=
  if l.length < 4 then ([], 2) else if l.drop (l.length - 4) = fourC (crcOf (l.take (l.length - 4))) then (l.take (l.length - 4), 0) else ([], 7)

theorem byte_one : (Tryd.prog.info? 5).map (·.size) = some 1 := by kernel_rfl

set_option maxHeartbeats 1000000 in
theorem take_any (A : Option Addr) (n c : Nat) (bs : List UInt8) (w : World) (hl : bs.length = n) (hr : Lies w w.heap.size A (bs.map bv)) (hc : n ≤ c) (hn : n ≤ 1000000000000) :
    Calls Tryd.prog 58 #[.slice A n c] w fun e w' => ∃ A' c', e = .returned (.tuple #[.slice A' (takeOf bs).1.length c', .int .i64 ((takeOf bs).2 : Int)]) ∧ Lies w' w'.heap.size A' ((takeOf bs).1.map bv) ∧ Grows w w' := by
  obtain ⟨i0, hi0, hz0, hz1, hz2⟩ := info_parts byte_info
  by_cases h4 : n < 4
  · have ht : takeOf bs = ([], 2) := by unfold takeOf; rw [if_pos (by omega)]
    rw [ht]
    clear ht
    go_enter Tryd.func58, Tryd.ntmps58
    go_wp2
    go_ret2
    exact ⟨none, 0, rfl, Lies.empty, Grows.refl _⟩
  · obtain ⟨m, rfl⟩ : ∃ m, n = m + 4 := ⟨n - 4, by omega⟩
    have HB := Lib.hid hl
    clear hl h4
    have hm4 : ((m + 4 : Nat) : Int) - 4 = (m : Int) := by omega
    have ct := run_cut_to (P := Tryd.prog) Tryd.underlying22 byte_one A (m + 4) c m .i64 (by omega)
    have cf := run_cut_from (P := Tryd.prog) Tryd.underlying22 byte_one A (m + 4) c m .i64 (by omega) (by omega)
    rw [show m + 4 - m = 4 by omega] at cf
    have hrt : Lies w w.heap.size A ((bs.take m).map bv) := by rw [List.map_take]; exact hr.take m
    have hrf : Lies w w.heap.size (A.map (·.add m)) ((bs.drop m).map bv) := by rw [List.map_drop]; exact hr.from_ m
    have HT : Hid ((bs.take m).length = m) := by show _ = _; rw [List.length_take, HB.out]; omega
    have HF : Hid ((bs.drop m).length = 4) := by show _ = _; rw [List.length_drop, HB.out]; omega
    have hs : crcOf (bs.take m) < 4294967296 := cmore_lt (s := 0) (by omega) _
    have HN := Lib.hid (num_inj (bs.drop m) (crcOf (bs.take m)) HF.out hs)
    have HTK : Hid (takeOf bs = if bs.drop m = fourC (crcOf (bs.take m)) then (bs.take m, 0) else ([], 7)) := by
      show _ = _
      unfold takeOf
      rw [HB.out, if_neg (by omega), show m + 4 - 4 = m by omega]
    have HCT := Lib.hid ct
    have HCF := Lib.hid cf
    clear ct cf
    go_enter Tryd.func58, Tryd.ntmps58
    go_wp2_with fail
    refine wp_region_ord 9 [(0, true), (1, true), (2, true), (3, true), (4, true), (5, true), (6, true), (7, true), (8, true)] (by kernel_rfl) (by kernel_rfl) ?_
    have hgd : Grows w w.drew := (Grows.refl w).drew
    have hLT := Lib.hid (hrt.later hgd)
    have hLF := Lib.hid (hrf.later hgd)
    have HGD := Lib.hid hgd
    have ct := HCT.out
    have cf := HCF.out
    have hO := Grows.refl w.drew
    clear hrt hrf hgd
    generalize hs0 : crcOf (bs.take m) = s at *
    have HS0 := Lib.hid hs0
    clear hs0
    generalize hx0 : numTo (bs.drop m) 4 = x at *
    have HX0 := Lib.hid hx0
    clear hx0
    repeat (first | (refine ord_cut hO _ ?_ (by simp only [List.getElem?_cons_succ, List.getElem?_cons_zero]; rfl) (by rfl) 22 (.tmp 15) none (some (.tmp 16)) none (by rfl) ?_ ?_; rotate_left; (· (exact ct)); try simp only [Act.put, List.setIfInBounds_toArray, List.set_cons_zero, List.set_cons_succ]) | (refine ord_cut hO _ ?_ (by simp only [List.getElem?_cons_succ, List.getElem?_cons_zero]; rfl) (by rfl) 22 (.tmp 11) (some (.tmp 12)) none none (by rfl) ?_ ?_; rotate_left; (· (exact cf)); try simp only [Act.put, List.setIfInBounds_toArray, List.set_cons_zero, List.set_cons_succ]) | (refine ord_take hO _ ?_ (by simp only [List.getElem?_cons_succ, List.getElem?_cons_zero]; rfl) (by rfl) ?_ ?_; rotate_left; (· (intro u hu0 hu; (try go_simp); (try with_reducible rfl))); try simp only [Act.put, List.setIfInBounds_toArray, List.set_cons_zero, List.set_cons_succ]) | (refine ord_skip _ (by simp only [List.getElem?_cons_succ, List.getElem?_cons_zero]; rfl) (by rfl) ?_; try simp only [Act.put, List.setIfInBounds_toArray, List.set_cons_zero, List.set_cons_succ]) | (refine ord_call hO _ ?_ (by simp only [List.getElem?_cons_succ, List.getElem?_cons_zero]; rfl) (by rfl) ?_ ?_; rotate_left; (· (intro u hu0 hu; go_simp; (try refine quiet_enter ?_); (first | exact number_g _ _ HX0 _ HF.out (hLF.out.later hu0) | exact sum_g _ _ _ HS0 _ HT.out (hLT.out.later hu0) (by omega)))); try simp only [Act.put, List.setIfInBounds_toArray, List.set_cons_zero, List.set_cons_succ]))
    clear hO ct cf HCT HCF
    (refine ord_done (fun u hu => ?_); simp only [List.drop_succ_cons, List.drop_zero])
    have hgu := Grows.trans HGD.out hu
    have hru := hr.later hgu
    clear hLT hLF HGD hr hu
    by_cases hxs : x = s
    · have HK : Hid (takeOf bs = (bs.take m, 0)) := by show _ = _; rw [HTK.out, if_pos (HN.out.1 hxs)]
      have hq : ((x : Int) != (s : Int)) = false := by simp [hxs]
      clear HTK HN HX0 HS0 hxs
      refine NoPanic.normal ?_
      go_wp2_with (first
        | (at_make; refine wpList_make_room _ rfl _ _ _ rfl u.heap.size 5 i0 _ Tryd.underlying22 hi0 hz0 hz1 rfl .i64 .i64 _ _ m m rfl rfl (by omega) (by omega) (Nat.le_refl _) (by rw [hz2]; omega) (by unfold maxLen; omega) (Nat.le_refl _) ?_; intro w1 hown1 hg1 hsz1)
        | (refine wpList_copy_row rfl (.tmp 22) (.tmp 23) 22 22 rfl 5 Tryd.underlying22 byte_one u.heap.size (.slice (some ⟨u.heap.size, 0, none⟩) m m) m _ rfl hown1 u.heap.size A (m + 4) c (bs.map bv) rfl (by rw [List.length_map]; exact HB.out) (hru.below hg1) (bv_one bs) u hg1 ?_; intro w2 hown2 hg2 hsz2))
      have e1 : (bs.map bv).take m ++ (List.replicate m (Value.int .u8 0)).drop (m + 4) = (bs.take m).map bv := by
        rw [List.drop_eq_nil_of_le (by simp), List.append_nil, List.map_take]
      rw [e1] at hown2
      have hg02 := Grows.trans hgu hg2
      have hL2 := Lies.of_own hown2
      go_ret2
      rw [HK.out]
      exact ⟨_, m, by rw [HT.out]; rfl, hL2, hg02⟩
    · have HK : Hid (takeOf bs = ([], 7)) := by show _ = _; rw [HTK.out, if_neg (fun h => hxs (HN.out.2 h))]
      have hq : ((x : Int) != (s : Int)) = true := by simp; omega
      clear HTK HN HX0 HS0 hxs
      refine NoPanic.normal ?_
      go_wp2_with fail
      go_ret2
      rw [HK.out]
      exact ⟨none, 0, rfl, Lies.empty, hgu⟩
end Go.Proofs.YtnokloedbckijaaDoor

/-
  Contracts of the reference's Put and Take of layer 3.
-/
namespace Go.Proofs.YtnokloedbckijaaDoor
open Go.RowKit
set_option linter.unusedVariables false
set_option maxRecDepth 20000

set_option maxHeartbeats 1000000 in
theorem rput_any (A : Option Addr) (n c : Nat) (bs : List UInt8) (w : World) (hl : bs.length = n) (hr : Lies w w.heap.size A (bs.map bv)) (hn : n ≤ 1000000000000) :
    Calls Tryd.prog 38 #[.slice A n c] w fun e w' => ∃ v, e = .returned v ∧ w'.ownsRow w.heap.size 5 1 v (n + 4) ((bs ++ fourC (crcOf bs)).map bv) ∧ Grows w w' := by
  obtain ⟨i0, hi0, hz0, hz1, hz2⟩ := info_parts byte_info
  have HL := Lib.hid hl
  clear hl
  have hs : crcOf bs < 4294967296 := cmore_lt (s := 0) (by omega) bs
  go_enter Tryd.func38, Tryd.ntmps38
  go_wp2_with fail
  refine (rmore_any 0 A n c bs w (by omega) HL.out hr hn).mono ?_
  rintro e w' ⟨rfl, rfl⟩
  have HSX : Hid (cmore 0 bs = crcOf bs) := rfl
  have HS0 : Hid (crcOf bs = crcOf bs / 2 ^ (8 * 0)) := by show _ = _; simp
  generalize cmore 0 bs = sx at *
  obtain rfl : sx = crcOf bs := HSX.out
  go_wp2_with (at_builtin; refine wpList_append_src _ rfl (.tmp 8) (.tmp 9) _ rfl w.heap.size 5 i0 _ 1 Tryd.underlying22 hi0 hz0 hz1 hz2 rfl (.slice none 0 0) 0 [] rfl (World.ownsRow_nil _ _ _ _) w.heap.size A n c (bs.map bv) rfl (by rw [List.length_map]; exact HL.out) hr (bv_one bs) (by unfold maxLen; omega) (by omega) (Nat.le_refl _) ?_; intro v1 w1 hown1 hg1 hat1)
  have hgr1 : Grows w w1 := (Grows.refl w).grown hg1 (Nat.le_refl _) (by simp [Value.ownBlock])
  rw [Nat.zero_add, List.nil_append] at hown1
  clear hg1 hat1 HSX
  generalize hsx : crcOf bs = s at *
  have HSX := Lib.hid hsx
  clear hsx
  go_loopw [3, 4, 5] (fun x v i wr => ∃ k : Nat, k ≤ 4 ∧ i = .int .i64 k ∧ x = uv (s / 2 ^ (8 * k)) ∧ wr.ownsRow w.heap.size 5 1 v (n + k) ((bs ++ (fourC s).take k).map bv) ∧ Grows w wr) (fun _ _ i _ => 4 - (intOf i).toNat)
  case atStart => exact ⟨0, by omega, rfl, by rw [← HS0.out], by simpa using hown1, hgr1⟩
  case round =>
    clear hown1 hgr1 HS0
    obtain ⟨k, hk, rfl, rfl, hown, hgr⟩ := hrel
    by_cases hlt : k < 4
    · have HF := Lib.hid (four_take s k hlt)
      have HD : Hid (s / 2 ^ (8 * (k + 1)) = s / 2 ^ (8 * k) / 256) := by show _ = _; rw [show 8 * (k + 1) = 8 * k + 8 by omega, Nat.pow_add, Nat.div_div_eq_div_mul]
      have hq : s / 2 ^ (8 * k) < 4294967296 := Nat.lt_of_le_of_lt (Nat.div_le_self _ _) hs
      generalize s / 2 ^ (8 * k) = q at *
      have hnew := Lies.new wr 5 [bv (UInt8.ofNat q)]
      go_wp2_with (at_builtin; refine wpList_append_src _ rfl (.tmp 15) (.tmp 19) _ rfl w.heap.size 5 i0 _ 1 Tryd.underlying22 hi0 hz0 hz1 hz2 rfl _ (n + k) _ rfl (hown.alloc _) _ _ 1 1 [bv (UInt8.ofNat q)] rfl rfl hnew (by simp [Value.oneCell']) (by unfold maxLen; omega) (by omega) (by rw [World.size_alloc]; have := hgr.size; omega) ?_; intro v' w' hown' hg' hat')
      have hb2 : Below w.heap.size wr w' := ((Below.refl _ wr).alloc hgr.size _).grown hg' (by rw [World.size_alloc]; have := hgr.size; omega) (own_ge hown)
      rw [show [bv (UInt8.ofNat q)] = [UInt8.ofNat q].map bv from rfl, ← List.map_append, List.append_assoc, ← HF.out] at hown'
      go_roundw
      case rel => exact ⟨k + 1, by omega, by go_num, by rw [HD.out]; rfl, hown', Below.trans hgr hb2⟩
      case measure => simp [intOf]; omega
    · obtain rfl : k = 4 := by omega
      rw [List.take_of_length_le (by rw [four_len]; exact Nat.le_refl _)] at hown
      go_wp2
      go_ret
      exact ⟨_, rfl, by rw [HSX.out]; exact hown, hgr⟩

theorem takeOf_put (bs : List UInt8) (m : Nat) (hl : bs.length = m + 4) : takeOf bs = if bs.take m ++ fourC (crcOf (bs.take m)) = bs then (bs.take m, 0) else ([], 7) := by
  unfold takeOf
  rw [hl, if_neg (by omega), show m + 4 - 4 = m by omega]
  have h : bs.take m ++ fourC (crcOf (bs.take m)) = bs ↔ bs.drop m = fourC (crcOf (bs.take m)) := by
    constructor
    · intro h
      have h2 := List.take_append_drop m bs
      exact (List.append_cancel_left (h.trans h2.symm)).symm
    · intro h
      rw [← h, List.take_append_drop]
  simp only [h]

set_option maxHeartbeats 1000000 in
theorem rtake_any (A : Option Addr) (n c : Nat) (bs : List UInt8) (w : World) (hl : bs.length = n) (hr : Lies w w.heap.size A (bs.map bv)) (hc : n ≤ c) (hn : n ≤ 1000000000000) :
    Calls Tryd.prog 61 #[.slice A n c] w fun e w' => ∃ A' c', e = .returned (.tuple #[.slice A' (takeOf bs).1.length c', .int .i64 ((takeOf bs).2 : Int)]) ∧ Lies w' w'.heap.size A' ((takeOf bs).1.map bv) ∧ Grows w w' := by
  by_cases h4 : n < 4
  · have ht : takeOf bs = ([], 2) := by unfold takeOf; rw [if_pos (by omega)]
    rw [ht]
    clear ht
    go_enter Tryd.func61, Tryd.ntmps61
    go_wp2
    go_ret2
    exact ⟨none, 0, rfl, Lies.empty, Grows.refl _⟩
  · obtain ⟨m, rfl⟩ : ∃ m, n = m + 4 := ⟨n - 4, by omega⟩
    have HTK := Lib.hid (takeOf_put bs m hl)
    have HB := Lib.hid hl
    clear hl h4
    have hm4 : ((m + 4 : Nat) : Int) - 4 = (m : Int) := by omega
    have ct := run_cut_to (P := Tryd.prog) Tryd.underlying22 byte_one A (m + 4) c m .i64 (by omega)
    have hrt : Lies w w.heap.size A ((bs.take m).map bv) := by rw [List.map_take]; exact hr.take m
    have HT : Hid ((bs.take m).length = m) := by show _ = _; rw [List.length_take, HB.out]; omega
    have HCT := Lib.hid ct
    clear ct
    go_enter Tryd.func61, Tryd.ntmps61
    go_wp2_with fail
    refine wp_region_ord 10 [(0, true), (1, true), (2, true), (3, true), (4, true), (7, true), (8, true), (5, false), (6, true), (9, true)] (by kernel_rfl) (by kernel_rfl) ?_
    have hgd : Grows w w.drew := (Grows.refl w).drew
    have hLT := hrt.later hgd
    have hLA := hr.later hgd
    have ct := HCT.out
    have hO := Grows.refl w.drew
    have hwm : IntKind.i64.wrap (m : Int) = (m : Int) := IntWalk.i64_in _ (by omega)
    clear hrt hr
    generalize w.drew = wd at *
    generalize htk : bs.take m = tk at *
    have HTKK := Lib.hid htk
    clear htk
    have cv1 : ∀ u, Grows wd u → (convert 22 9 (.slice A (m + 4) c)).run Tryd.prog u = .ok (.string ⟨bs.toArray⟩) u := fun u h =>
      run_string_of u 22 5 Tryd.underlying22 Tryd.underlying5 9 Tryd.underlying9 _ A (m + 4) c bs HB.out (hLA.below h)
    repeat (first | (refine ord_cut hO _ ?_ (by simp only [List.getElem?_cons_succ, List.getElem?_cons_zero]; rfl) (by rfl) 22 (.tmp 7) none (some (.tmp 10)) none (by rfl) ?_ ?_; rotate_left; (· (exact ct)); try simp only [Act.put, List.setIfInBounds_toArray, List.set_cons_zero, List.set_cons_succ]) | (refine ord_take hO _ ?_ (by simp only [List.getElem?_cons_succ, List.getElem?_cons_zero]; rfl) (by rfl) ?_ ?_; rotate_left; (· (intro u hu0 hu; (try go_simp); (try with_reducible rfl))); try simp only [Act.put, List.setIfInBounds_toArray, List.set_cons_zero, List.set_cons_succ]) | (refine ord_skip _ (by simp only [List.getElem?_cons_succ, List.getElem?_cons_zero]; rfl) (by rfl) ?_; try simp only [Act.put, List.setIfInBounds_toArray, List.set_cons_zero, List.set_cons_succ]))
    (refine ord_move _ (by simp only [List.getElem?_cons_succ, List.getElem?_cons_zero]; rfl) (by rfl) (fun u hu K hK => ?_); go_simp)
    refine (rput_any A m c tk u HT.out (hLT.later hu) (by omega)).mono ?_
    rintro e w1 ⟨v1, rfl, hown1, hg1⟩
    obtain ⟨A1, c1, rfl, hc1⟩ := own_form hown1
    refine hK.out _ _ hg1 ?_
    clear hK K
    have hL1 := Lies.of_own hown1
    have hl1 : (tk ++ fourC (crcOf tk)).length = m + 4 := by rw [List.length_append, HT.out, four_len]
    have HL1 := Lib.hid hl1
    clear hown1 hl1
    generalize hpt : tk ++ fourC (crcOf tk) = pt at *
    have HPT := Lib.hid hpt
    clear hpt
    have cv2 : ∀ u, Grows w1 u → (convert 22 9 (.slice A1 (m + 4) c1)).run Tryd.prog u = .ok (.string ⟨pt.toArray⟩) u := fun u h =>
      run_string_of u 22 5 Tryd.underlying22 Tryd.underlying5 9 Tryd.underlying9 _ A1 (m + 4) c1 pt HL1.out (hL1.below h)
    have hg01 := Grows.trans hgd (Grows.trans hu hg1)
    have hLA1 := hLA.later (Grows.trans hu hg1)
    have hLT1 := hLT.later (Grows.trans hu hg1)
    have hO := Grows.refl w1
    clear hu hLA hLT cv1 hgd hL1
    repeat (first | (refine ord_take hO _ ?_ (by simp only [List.getElem?_cons_succ, List.getElem?_cons_zero]; rfl) (by rfl) ?_ ?_; rotate_left; (· (intro u hu0 hu; (try go_simp); (try with_reducible rfl))); try simp only [Act.put, List.setIfInBounds_toArray, List.set_cons_zero, List.set_cons_succ]) | (refine ord_skip _ (by simp only [List.getElem?_cons_succ, List.getElem?_cons_zero]; rfl) (by rfl) ?_; try simp only [Act.put, List.setIfInBounds_toArray, List.set_cons_zero, List.set_cons_succ]))
    (refine ord_done (fun u hu => ?_); simp only [List.drop_succ_cons, List.drop_zero])
    have hgu := Grows.trans hg01 hu
    have hLTu := hLT1.later hu
    have ct := HCT.out
    clear hO cv2 hg01 hLT1 hLA1 hu hg1
    refine NoPanic.normal ?_
    generalize hq : (pt == bs) = q
    cases q with
    | true =>
      have HK : Hid (takeOf bs = (tk, 0)) := by show _ = _; rw [HTK.out, if_pos (by simpa using hq)]
      clear hq
      go_wp2_with (with_reducible refine wpList_cut rfl 22 (.tmp 17) none (some (.tmp 20)) none rfl _ (HCT.out _) ?_)
      go_ret2
      rw [HK.out]
      exact ⟨_, c, by rw [HT.out]; rfl, hLTu, hgu⟩
    | false =>
      have HK : Hid (takeOf bs = ([], 7)) := by show _ = _; rw [HTK.out, if_neg (by simpa using hq)]
      clear hq
      go_wp2_with fail
      go_ret2
      rw [HK.out]
      exact ⟨none, 0, rfl, Lies.empty, hgu⟩
end Go.Proofs.YtnokloedbckijaaDoor

/-
  Indexes as lists (mathematics): which may be, their bytes, and what is read of bytes.
-/
namespace Go.Proofs.YtnokloedbckijaaDoor
open Go.RowKit
set_option linter.unusedVariables false
set_option maxRecDepth 20000

/-- An item: a digest's bytes and a size. -/
abbrev Itm := List UInt8 × Int
/-- An index. -/
structure Ixd where
  a : Int
  b : Int
  c : Int
  im : List UInt8
  its : List Itm
def zeroI : Ixd := ⟨0, 0, 0, List.replicate 32 0, []⟩
/-- Its numbers and digests are such as Go has. -/
structure Ixd.Ok (x : Ixd) : Prop where
  a : I64 x.a
  b : I64 x.b
  c : I64 x.c
  im : x.im.length = 32
  its : ∀ it ∈ x.its, it.1.length = 32 ∧ I64 it.2
def total (l : List Itm) : Int := (l.map (·.2)).sum
/-- May this size be, at i of n? -/
def sizeOk (a c : Int) (n i : Nat) (s : Int) : Prop := 1 ≤ s ∧ s ≤ c ∧ (i + 1 < n → a ≤ s)
structure IMay (x : Ixd) : Prop where
  prm : mayZ x.a x.b x.c = true
  few : x.its.length ≤ 4096
  sizes : ∀ i it, x.its[i]? = some it → sizeOk x.a x.c x.its.length i it.2
  total : total x.its ≤ 65536
open Classical in
noncomputable def mayI (x : Ixd) : Bool := decide (IMay x)
theorem mayI_true {x : Ixd} (h : IMay x) : mayI x = true := by unfold mayI; simp [h]
theorem mayI_false {x : Ixd} (h : ¬ IMay x) : mayI x = false := by unfold mayI; simp [h]
theorem mayI_iff {x : Ixd} : mayI x = true ↔ IMay x := by unfold mayI; simp
theorem mayZ_iff {a b c : Int} : mayZ a b c = true ↔ 1 ≤ a ∧ a ≤ b ∧ b ≤ c ∧ c ≤ 4096 := by simp [mayZ]
theorem total_nil : total [] = 0 := rfl
theorem total_append (a b : List Itm) : total (a ++ b) = total a + total b := by simp [total]
theorem total_snoc (l : List Itm) (x : Itm) : total (l ++ [x]) = total l + x.2 := by simp [total]
theorem total_take {l : List Itm} {k : Nat} {x : Itm} (h : l[k]? = some x) : total (l.take (k + 1)) = total (l.take k) + x.2 := by
  rw [List.take_add_one, h, Option.toList_some, total_snoc]
theorem total_bounds {l : List Itm} {c : Int} (h : ∀ it ∈ l, 1 ≤ it.2 ∧ it.2 ≤ c) : 0 ≤ total l ∧ total l ≤ (l.length : Int) * c := by
  induction l with
  | nil => simp [total]
  | cons x l ih =>
    have h1 := h x (by simp)
    have h2 := ih fun y hy => h y (by simp [hy])
    simp only [total, List.map_cons, List.sum_cons, List.length_cons] at h2 ⊢
    push_cast
    rw [Int.add_mul]
    omega
theorem total_mono {l : List Itm} (h : ∀ it ∈ l, 1 ≤ it.2) (k : Nat) : total (l.take k) ≤ total l := by
  have h1 := total_append (l.take k) (l.drop k)
  rw [List.take_append_drop] at h1
  have h2 : 0 ≤ total (l.drop k) := by
    have : ∀ (m : List Itm), (∀ it ∈ m, 1 ≤ it.2) → 0 ≤ total m := by
      intro m hm
      induction m with
      | nil => simp [total]
      | cons x m ih =>
        have g1 := hm x (by simp)
        have g2 := ih fun y hy => hm y (by simp [hy])
        simp only [total, List.map_cons, List.sum_cons] at g2 ⊢
        omega
    exact this _ fun it hi => h it (List.mem_of_mem_drop hi)
  omega

/-- The bytes ahead of the check. -/
def itemBytes (x : Itm) : List UInt8 := x.1 ++ fourC x.2.toNat
def headBytes (x : Ixd) : List UInt8 := [76, 84, 73, 49] ++ fourC x.a.toNat ++ fourC x.b.toNat ++ fourC x.c.toNat ++ x.im ++ fourC x.its.length
def ixBytes (x : Ixd) : List UInt8 := headBytes x ++ (x.its.map itemBytes).flatten
/-- All bytes. -/
def ixAll (x : Ixd) : List UInt8 := ixBytes x ++ fourC (crcOf (ixBytes x))
theorem itemBytes_len {x : Itm} (h : x.1.length = 32) : (itemBytes x).length = 36 := by simp [itemBytes, h, four_len]
theorem flats_len {l : List Itm} (h : ∀ it ∈ l, it.1.length = 32) : ((l.map itemBytes).flatten).length = 36 * l.length := by
  induction l with
  | nil => rfl
  | cons x l ih =>
    simp only [List.map_cons, List.flatten_cons, List.length_append, List.length_cons]
    rw [ih fun y hy => h y (by simp [hy]), itemBytes_len (h x (by simp))]
    omega
theorem headBytes_len {x : Ixd} (h : x.im.length = 32) : (headBytes x).length = 52 := by simp [headBytes, h, four_len]
theorem ixBytes_len {x : Ixd} (h : x.Ok) : (ixBytes x).length = 52 + 36 * x.its.length := by
  rw [ixBytes, List.length_append, headBytes_len h.im, flats_len fun it hi => (h.its it hi).1]
theorem flats_take {l : List Itm} {k : Nat} {x : Itm} (h : l[k]? = some x) : ((l.take (k + 1)).map itemBytes).flatten = ((l.take k).map itemBytes).flatten ++ itemBytes x := by
  rw [List.take_add_one, h, Option.toList_some, List.map_append, List.flatten_append]
  simp

/-- The number of fourC bytes from i on. -/
def numAt (l : List UInt8) (i : Nat) : Nat := numTo ((l.drop i).take 4) 4
theorem numAt_lt (l : List UInt8) (i : Nat) : numAt l i < 4294967296 := numTo_lt _ 4
theorem four_numAt {l : List UInt8} {i : Nat} (h : i + 4 ≤ l.length) : fourC (numAt l i) = (l.drop i).take 4 :=
  ((num_inj _ _ (by simp; omega) (numAt_lt l i)).1 rfl).symm
/-- The items of bytes. -/
def decIts : Nat → List UInt8 → List Itm
  | 0, _ => []
  | k + 1, l => (l.take 32, (numAt l 32 : Int)) :: decIts k (l.drop 36)
theorem decIts_len : ∀ (k : Nat) (l : List UInt8), (decIts k l).length = k
  | 0, _ => rfl
  | k + 1, l => by rw [decIts, List.length_cons, decIts_len k]
theorem decIts_at : ∀ (k : Nat) (l : List UInt8) (i : Nat), i < k → (decIts k l)[i]? = some ((l.drop (36 * i)).take 32, (numAt l (36 * i + 32) : Int))
  | 0, _, _, h => by omega
  | k + 1, l, 0, _ => by simp [decIts]
  | k + 1, l, i + 1, h => by
    rw [decIts, List.getElem?_cons_succ, decIts_at k _ i (by omega), List.drop_drop, numAt, List.drop_drop, numAt]
    rw [show 36 + 36 * i = 36 * (i + 1) by omega, show 36 + (36 * i + 32) = 36 * (i + 1) + 32 by omega]
theorem decIts_ok {k : Nat} {l : List UInt8} (h : l.length = 36 * k) : ∀ it ∈ decIts k l, it.1.length = 32 ∧ I64 it.2 := by
  intro it hi
  obtain ⟨i, hi⟩ := List.mem_iff_getElem?.1 hi
  have hik : i < k := by have := (List.getElem?_eq_some_iff.1 hi).1; rwa [decIts_len] at this
  rw [decIts_at k l i hik] at hi
  injection hi with hi
  subst hi
  have := numAt_lt l (36 * i + 32)
  exact ⟨by simp; omega, by unfold I64; omega⟩
theorem decIts_bytes : ∀ (k : Nat) (l : List UInt8), l.length = 36 * k → ((decIts k l).map itemBytes).flatten = l
  | 0, l, h => by simp at h; subst h; rfl
  | k + 1, l, h => by
    rw [decIts, List.map_cons, List.flatten_cons, decIts_bytes k _ (by rw [List.length_drop]; omega), itemBytes, show ((numAt l 32 : Int)).toNat = numAt l 32 from rfl, four_numAt (by omega), List.append_assoc]
    have h1 : (l.drop 32).take 4 ++ l.drop 36 = l.drop 32 := by
      have := List.take_append_drop 4 (l.drop 32)
      rwa [List.drop_drop] at this
    rw [h1, List.take_append_drop]
/-- The index of bytes, with k items. -/
def decI (k : Nat) (l : List UInt8) : Ixd := ⟨numAt l 4, numAt l 8, numAt l 12, (l.drop 16).take 32, decIts k (l.drop 52)⟩
theorem decI_ok {k : Nat} {l : List UInt8} (h : l.length = 52 + 36 * k) : (decI k l).Ok := by
  have h1 := numAt_lt l 4
  have h2 := numAt_lt l 8
  have h3 := numAt_lt l 12
  exact ⟨by unfold I64 decI; dsimp only; omega, by unfold I64 decI; dsimp only; omega, by unfold I64 decI; dsimp only; omega, by simp [decI]; omega, decIts_ok (by rw [List.length_drop]; omega)⟩
theorem cut4 (l : List UInt8) (i : Nat) : (l.drop i).take 4 ++ l.drop (i + 4) = l.drop i := by
  have := List.take_append_drop 4 (l.drop i)
  rwa [List.drop_drop] at this
/-- Its bytes are these, if the mark and the number of items are. -/
theorem decI_bytes {k : Nat} {l : List UInt8} (h : l.length = 52 + 36 * k) (hk : k < 4294967296) : ixBytes (decI k l) = l ↔ l.take 4 = [76, 84, 73, 49] ∧ numAt l 48 = k := by
  have hi : (decI k l).its.length = k := decIts_len k _
  have hb : ixBytes (decI k l) = [76, 84, 73, 49] ++ ((l.drop 4).take 4 ++ ((l.drop 8).take 4 ++ ((l.drop 12).take 4 ++ ((l.drop 16).take 32 ++ (fourC k ++ l.drop 52))))) := by
    unfold ixBytes headBytes
    rw [hi]
    show [76, 84, 73, 49] ++ fourC (numAt l 4) ++ fourC (numAt l 8) ++ fourC (numAt l 12) ++ (l.drop 16).take 32 ++ fourC k ++ ((decIts k (l.drop 52)).map itemBytes).flatten = _
    rw [decIts_bytes k _ (by rw [List.length_drop]; omega), four_numAt (by omega), four_numAt (by omega), four_numAt (by omega)]
    simp only [List.append_assoc]
  have hl : l = l.take 4 ++ ((l.drop 4).take 4 ++ ((l.drop 8).take 4 ++ ((l.drop 12).take 4 ++ ((l.drop 16).take 32 ++ ((l.drop 48).take 4 ++ l.drop 52))))) := by
    rw [cut4 l 48]
    have h32 : (l.drop 16).take 32 ++ l.drop 48 = l.drop 16 := by
      have := List.take_append_drop 32 (l.drop 16)
      rwa [List.drop_drop] at this
    rw [h32, cut4 l 12, cut4 l 8, cut4 l 4, List.take_append_drop]
  have h48 : (l.drop 48).take 4 = fourC k ↔ numAt l 48 = k := (num_inj _ _ (by simp; omega) hk).symm
  rw [hb]
  constructor
  · intro e0
    have e := e0.trans hl
    have e1 := List.append_inj e (by simp; omega)
    have e2 := List.append_inj e1.2 (by simp)
    have e3 := List.append_inj e2.2 (by simp)
    have e4 := List.append_inj e3.2 (by simp)
    have e5 := List.append_inj e4.2 (by simp)
    have e6 := List.append_inj e5.2 (by simp [four_len]; omega)
    have t1 : l.take 4 = [76, 84, 73, 49] := e1.1.symm
    have t2 : (l.drop 48).take 4 = fourC k := e6.1.symm
    exact ⟨t1, h48.1 t2⟩
  · rintro ⟨e1, e2⟩
    conv => rhs; rw [hl]
    rw [e1, h48.2 e2]
/-- What is read of bytes: the index, and the error's number. -/
noncomputable def readOf (b : List UInt8) : Ixd × Nat :=
  if (takeOf b).2 ≠ 0 then (zeroI, (takeOf b).2)
  else if 52 ≤ (takeOf b).1.length ∧ (takeOf b).1.take 4 = [76, 84, 73, 49] ∧ (takeOf b).1.length = 52 + 36 * numAt (takeOf b).1 48 ∧ mayI (decI (numAt (takeOf b).1 48) (takeOf b).1) = true then (decI (numAt (takeOf b).1 48) (takeOf b).1, 0)
  else (zeroI, 2)
end Go.Proofs.YtnokloedbckijaaDoor

/-
  Items and indexes that came in: an array's bytes, a slice of items, a struct of parameters, an image and items.
-/
namespace Go.Proofs.YtnokloedbckijaaDoor
open Go.RowKit
open Go.ChangeShapes Go.WideShapes
set_option linter.unusedVariables false
set_option maxRecDepth 20000

/-- An item's cells. -/
def icells (x : Itm) : List Value := x.1.map bv ++ [.int .i64 x.2]
abbrev itv (x : Itm) : Value := .agg (icells x).toArray
theorem icells_len {x : Itm} (h : x.1.length = 32) : (icells x).length = 33 := by simp [icells, h]
theorem icells_one (x : Itm) : ∀ u ∈ icells x, u.oneCell' = true := fun u hu => by
  rcases List.mem_append.1 hu with h | h
  · exact bv_one _ u h
  · simp at h; subst h; rfl
/-- An index's cells. -/
def xcells (x : Ixd) (A : Option Addr) (c : Nat) : List Value := [.int .i64 x.a, .int .i64 x.b, .int .i64 x.c] ++ (x.im.map bv ++ [.slice A x.its.length c])
abbrev xval (x : Ixd) (A : Option Addr) (c : Nat) : Value := .agg (xcells x A c).toArray
theorem xcells_len {x : Ixd} (h : x.im.length = 32) (A : Option Addr) (c : Nat) : (xcells x A c).length = 36 := by simp [xcells, h]
theorem xcells_one (x : Ixd) (A : Option Addr) (c : Nat) : ∀ u ∈ xcells x A c, u.oneCell' = true := fun u hu => by
  rcases List.mem_append.1 hu with h | h
  · simp at h; rcases h with rfl | rfl | rfl <;> rfl
  · rcases List.mem_append.1 h with h | h
    · exact bv_one _ u h
    · simp at h; subst h; rfl
theorem all_bv : ∀ {cs : List Value}, (∀ v ∈ cs, ∃ b : UInt8, v = bv b) → ∃ l : List UInt8, cs = l.map bv
  | [], _ => ⟨[], rfl⟩
  | v :: cs, h => by
    obtain ⟨b, rfl⟩ := h v (by simp)
    obtain ⟨l, rfl⟩ := all_bv (cs := cs) (fun v hv => h v (by simp [hv]))
    exact ⟨b :: l, rfl⟩
theorem i64_wf' {n : Int} (h : (Lit.int .i64 n).wf = true) : I64 n := by
  simp [Lit.wf, IntKind.min, IntKind.max, IntKind.signed, IntKind.bits] at h
  exact ⟨by omega, by omega⟩

section
variable {H : Type} {enc : TypeId × Value → H} {P : Program} {w : World} {base : Nat} {spare : Nat → Bool} {held : Bool}

/-- An array's cells. -/
theorem trod_arr {t e : TypeId} {n m : Nat} {cs : List Value} {x : DataW H × List MemPlace} (ht : P.underlying t = some (.array n e)) (he : P.underlying e = some (.int .u8)) (hce : P.cellsOf e = 1) (hl : cs.length = n)
    (h : DataW.trod enc P w base spare held m t cs = some x) : ∃ l : List UInt8, l.length = n ∧ cs = l.map bv := by
  obtain ⟨xs, k, _, _, _, hxl, hi⟩ := DataW.trod_array ht h
  obtain ⟨l, rfl⟩ := all_bv (cs := cs) (fun v hv => by
    obtain ⟨i, hiv⟩ := List.mem_iff_getElem?.1 hv
    have hic := (List.getElem?_eq_some_iff.1 hiv).1
    have hx := hi i (by omega)
    rw [List.getElem?_eq_getElem (by omega), hce, Nat.mul_one, List.drop_eq_getElem_cons hic] at hx
    simp only [List.take_succ_cons, List.take_zero] at hx
    obtain ⟨z, hz, _, hwf⟩ := DataW.trod_int he hx
    simp at hz
    rw [(List.getElem?_eq_some_iff.1 hiv).2] at hz
    have hb : 0 ≤ z ∧ z ≤ 255 := by simp [Lit.wf, IntKind.min, IntKind.max, IntKind.signed, IntKind.bits] at hwf; omega
    refine ⟨UInt8.ofNat z.toNat, ?_⟩
    rw [hz]
    have : (UInt8.ofNat z.toNat).toNat = z.toNat := by simp; omega
    simp only [bv, this]
    congr 1
    omega)
  exact ⟨l, by simpa using hl, rfl⟩

/-- The items of a slice. -/
theorem open_items {t e eb : TypeId} {f0 f1 : Field} {fuel : Nat} {cs : List Value} {x : DataW H × List MemPlace} (ht : P.underlying t = some (.slice e)) (he : P.underlying e = some (.struct #[f0, f1]))
    (o0 : f0.offset = 0) (c0 : P.cellsOf f0.type = 32) (o1 : f1.offset = 32) (c1 : P.cellsOf f1.type = 1) (ce : P.cellsOf e = 33) (ha : P.underlying f0.type = some (.array 32 eb)) (hb : P.underlying eb = some (.int .u8)) (hcb : P.cellsOf eb = 1)
    (hi1 : P.underlying f1.type = some (.int .i64)) (h : DataW.trod enc P w base spare held fuel t cs = some x) :
    ∃ (A : Option Addr) (len cap : Nat) (l : List Itm), cs = [.slice A len cap] ∧ l.length = len ∧ len ≤ cap ∧ cap ≤ maxLen ∧ (∀ it ∈ l, it.1.length = 32 ∧ I64 it.2) ∧ Recs w A 33 (l.map icells) := by
  rcases Go.Deep.open_slice ht h with ⟨h0, _⟩ | ⟨a, len, cap, m, n, D, Pl, rfl, hbs, hl, hm, hmm, _, hx⟩
  · exact ⟨none, 0, 0, [], h0, rfl, Nat.le_refl _, Nat.zero_le _, by simp, Recs.nil⟩
  have hlm : len ≤ m := by rw [hmm]; split <;> omega
  have each : ∀ i, i < len → ∃ r : Itm, r.1.length = 32 ∧ I64 r.2 ∧ (∀ j u, (icells r)[j]? = some u → w.cell? (a.add (i * 33 + j)) = some u) := fun i hi => by
    obtain ⟨cs', h1, h2⟩ := hx i (by omega)
    rw [ce] at h1
    obtain ⟨_, hlen, hcell⟩ := World.cells?_some h1
    obtain ⟨xs, k, _, _, _, hxl, hf⟩ := DataW.trod_struct he h2
    have g0 := hf 0 f0 rfl
    have g1 := hf 1 f1 rfl
    have hx2 : xs.length = 2 := hxl
    rw [o0, c0, List.drop_zero, List.getElem?_eq_getElem (by omega)] at g0
    rw [o1, c1, List.getElem?_eq_getElem (by omega)] at g1
    obtain ⟨b, hbl, hbe⟩ := trod_arr ha hb hcb (by rw [List.length_take, hlen]; rfl) g0
    obtain ⟨z, hz, _, hwf⟩ := DataW.trod_int hi1 g1
    refine ⟨(b, z), hbl, i64_wf' hwf, fun j u hu => ?_⟩
    have hcs : cs' = icells (b, z) := by
      have h3 : cs' = cs'.take 32 ++ (cs'.drop 32).take 1 := by
        conv => lhs; rw [← List.take_append_drop 32 cs']
        congr 1
        rw [List.take_of_length_le (by rw [List.length_drop]; omega)]
      rw [h3, hbe, hz]
      rfl
    rw [← hcs] at hu
    have hj : j < 33 := by rw [← hlen]; exact (List.getElem?_eq_some_iff.1 hu).1
    have := hcell j hj
    rw [add_add_addr] at this
    rw [this, hu]
  obtain ⟨R, hR⟩ := Go.Deep.choose_lt each
  have hlenR : ∀ r ∈ ((List.range len).map R).map icells, r.length = 33 := fun r hr => by
    obtain ⟨y, hy, rfl⟩ := List.mem_map.1 hr
    obtain ⟨i, hi, rfl⟩ := List.mem_map.1 hy
    exact icells_len (hR i (List.mem_range.1 hi)).1
  refine ⟨some a, len, cap, (List.range len).map R, rfl, by simp, hl, hm, fun it hit => ?_, ⟨hlenR, fun q u hu => ?_⟩⟩
  · obtain ⟨i, hi, rfl⟩ := List.mem_map.1 hit
    exact ⟨(hR i (List.mem_range.1 hi)).1, (hR i (List.mem_range.1 hi)).2.1⟩
  · have hq : q < len * 33 := by
      have := (List.getElem?_eq_some_iff.1 hu).1
      rw [flat_len hlenR] at this
      simpa using this
    have hi : q / 33 < len := Nat.div_lt_of_lt_mul (by omega)
    have hj : q % 33 < 33 := Nat.mod_lt _ (by decide)
    obtain ⟨g1, _, g2⟩ := hR (q / 33) hi
    obtain ⟨v, hv⟩ : ∃ v, (icells (R (q / 33)))[q % 33]? = some v := ⟨_, List.getElem?_eq_getElem (by rw [icells_len g1]; exact hj)⟩
    have hfl := flat_at (rs := ((List.range len).map R).map icells) (i := q / 33) (j := q % 33) hlenR (by rw [List.getElem?_map, List.getElem?_map, List.getElem?_range hi]; rfl) hv
    have hqq : q / 33 * 33 + q % 33 = q := by omega
    rw [hqq, hu] at hfl
    injection hfl with hfl
    subst hfl
    have hc := g2 _ _ hv
    rw [hqq] at hc
    refine ⟨a, rfl, ?_, hc⟩
    have := World.block_lt_of_cell? w _ hc
    rwa [add_block] at this

theorem take1_int {t : TypeId} {n : Nat} {cs : List Value} {x : DataW H × List MemPlace} (ht : P.underlying t = some (.int .i64)) (h : DataW.trod enc P w base spare held n t cs = some x) : ∃ z : Int, cs = [.int .i64 z] ∧ I64 z := by
  obtain ⟨z, hz, _, hwf⟩ := DataW.trod_int ht h
  exact ⟨z, by simpa using hz, i64_wf' hwf⟩
/-- An index that lies in cells. -/
theorem trod_ix {t e eb ei : TypeId} {f0 f1 f2 p0 p1 p2 g0 g1 : Field} {fuel : Nat} {cs : List Value} {x : DataW H × List MemPlace} (ht : P.underlying t = some (.struct #[f0, f1, f2]))
    (oc : f0.offset = 0 ∧ P.cellsOf f0.type = 3 ∧ f1.offset = 3 ∧ P.cellsOf f1.type = 32 ∧ f2.offset = 35 ∧ P.cellsOf f2.type = 1 ∧ P.cellsOf t = 36)
    (hp : P.underlying f0.type = some (.struct #[p0, p1, p2])) (pc : p0.offset = 0 ∧ P.cellsOf p0.type = 1 ∧ p1.offset = 1 ∧ P.cellsOf p1.type = 1 ∧ p2.offset = 2 ∧ P.cellsOf p2.type = 1)
    (q0 : P.underlying p0.type = some (.int .i64)) (q1 : P.underlying p1.type = some (.int .i64)) (q2 : P.underlying p2.type = some (.int .i64))
    (ha : P.underlying f1.type = some (.array 32 eb)) (hb : P.underlying eb = some (.int .u8)) (hcb : P.cellsOf eb = 1) (hs : P.underlying f2.type = some (.slice e)) (he : P.underlying e = some (.struct #[g0, g1]))
    (gc : g0.offset = 0 ∧ P.cellsOf g0.type = 32 ∧ g1.offset = 32 ∧ P.cellsOf g1.type = 1 ∧ P.cellsOf e = 33) (hga : P.underlying g0.type = some (.array 32 eb)) (hgi : P.underlying g1.type = some (.int .i64))
    (h : DataW.trod enc P w base spare held fuel t cs = some x) :
    ∃ (y : Ixd) (A : Option Addr) (cap : Nat), cs = xcells y A cap ∧ y.Ok ∧ y.its.length ≤ cap ∧ cap ≤ maxLen ∧ Recs w A 33 (y.its.map icells) := by
  obtain ⟨o0, k0, o1, k1, o2, k2, kt⟩ := oc
  obtain ⟨r0, l0, r1, l1, r2, l2⟩ := pc
  obtain ⟨s0, m0, s1, m1, me⟩ := gc
  obtain ⟨y0, y1, y2, n, _, hl, h0, h1, h2⟩ := Go.Deep.trod_struct3 ht h
  rw [kt] at hl
  rw [o0, k0, List.drop_zero] at h0
  rw [o1, k1] at h1
  rw [o2, k2] at h2
  obtain ⟨z0, z1, z2, n', _, hl', i0, i1, i2⟩ := Go.Deep.trod_struct3 hp h0
  rw [r0, l0] at i0
  rw [r1, l1] at i1
  rw [r2, l2] at i2
  obtain ⟨a, ea, wa⟩ := take1_int q0 i0
  obtain ⟨b, eb', wb⟩ := take1_int q1 i1
  obtain ⟨c, ec, wc⟩ := take1_int q2 i2
  obtain ⟨im, hil, hie⟩ := trod_arr ha hb hcb (by rw [List.length_take, List.length_drop, hl]; rfl) h1
  obtain ⟨A, len, cap, l, hse, hlen, hlc, hcm, hok, hrec⟩ := open_items hs he s0 m0 s1 m1 me hga hb hcb hgi h2
  subst hlen
  refine ⟨⟨a, b, c, im, l⟩, A, cap, ?_, ⟨wa, wb, wc, hil, hok⟩, hlc, hcm, hrec⟩
  have t3 : cs.take 3 = [.int .i64 a, .int .i64 b, .int .i64 c] := by
    match cs, hl with
    | x0 :: x1 :: x2 :: r, _ =>
      simp at ea eb' ec
      simp [ea, eb', ec]
  have e1 : cs = cs.take 3 ++ ((cs.drop 3).take 32 ++ (cs.drop 35).take 1) := by
    have u1 := List.take_append_drop 3 cs
    have u2 := List.take_append_drop 32 (cs.drop 3)
    rw [List.drop_drop] at u2
    have u3 : (cs.drop 35).take 1 = cs.drop 35 := List.take_of_length_le (by rw [List.length_drop]; omega)
    rw [u3, u2, u1]
  rw [e1, t3, hie, hse]
  rfl
end
end Go.Proofs.YtnokloedbckijaaDoor

/-
  Items as values: built of a digest and a size, laid as a slice of one, compared.
-/
namespace Go.Proofs.YtnokloedbckijaaDoor
open Go.RowKit
set_option linter.unusedVariables false
set_option maxRecDepth 20000

/-- Any thirty-two bytes. -/
theorem by32 {C : List UInt8 → Prop} (h : ∀ a0 a1 a2 a3 a4 a5 a6 a7 a8 a9 a10 a11 a12 a13 a14 a15 a16 a17 a18 a19 a20 a21 a22 a23 a24 a25 a26 a27 a28 a29 a30 a31 : UInt8, C [a0, a1, a2, a3, a4, a5, a6, a7, a8, a9, a10, a11, a12, a13, a14, a15, a16, a17, a18, a19, a20, a21, a22, a23, a24, a25, a26, a27, a28, a29, a30, a31]) : ∀ l : List UInt8, l.length = 32 → C l
  | [a0, a1, a2, a3, a4, a5, a6, a7, a8, a9, a10, a11, a12, a13, a14, a15, a16, a17, a18, a19, a20, a21, a22, a23, a24, a25, a26, a27, a28, a29, a30, a31], _ => h a0 a1 a2 a3 a4 a5 a6 a7 a8 a9 a10 a11 a12 a13 a14 a15 a16 a17 a18 a19 a20 a21 a22 a23 a24 a25 a26 a27 a28 a29 a30 a31
theorem item_info : (Tryd.prog.info? 61).map (fun i => (i.size, i.bytes)) = some (33, 40) := by kernel_rfl
def zitem : Value := itv (List.replicate 32 0, 0)
theorem item_infoz : (Tryd.prog.info? 61).map (fun i => (i.zero, i.size, i.bytes)) = some (some zitem, 33, 40) := by kernel_rfl
theorem zitem_size : zitem.cells.size = 33 := by decide +kernel
theorem item_size : (Tryd.prog.info? 61).map (·.size) = some 33 := by kernel_rfl
set_option maxRecDepth 20000 in
theorem build_item (l : List UInt8) (n : Int) (hl : l.length = 32) (u : World) : (Instr.build 61 #[(0, dv l), (1, .int .i64 n)]).run Tryd.prog u = .ok (itv (l, n)) u := by
  revert n u
  refine by32 (C := fun l => ∀ (n : Int) (u : World), (Instr.build 61 #[(0, dv l), (1, .int .i64 n)]).run Tryd.prog u = .ok (itv (l, n)) u) ?_ l hl
  intro a0 a1 a2 a3 a4 a5 a6 a7 a8 a9 a10 a11 a12 a13 a14 a15 a16 a17 a18 a19 a20 a21 a22 a23 a24 a25 a26 a27 a28 a29 a30 a31 n u
  exact run_build u 61 _ _ (by kernel_rfl)
set_option maxRecDepth 20000 in
theorem slice_item (l : List UInt8) (n : Int) (hl : l.length = 32) (u : World) : (Instr.buildSlice 29 1 #[(0, itv (l, n))]).run Tryd.prog u = .ok (.slice (some ⟨u.heap.size, 0, none⟩) 1 1) (u.alloc (.cells (icells (l, n)).toArray 61)) := by
  revert n u
  refine by32 (C := fun l => ∀ (n : Int) (u : World), (Instr.buildSlice 29 1 #[(0, itv (l, n))]).run Tryd.prog u = .ok (.slice (some ⟨u.heap.size, 0, none⟩) 1 1) (u.alloc (.cells (icells (l, n)).toArray 61))) ?_ l hl
  intro a0 a1 a2 a3 a4 a5 a6 a7 a8 a9 a10 a11 a12 a13 a14 a15 a16 a17 a18 a19 a20 a21 a22 a23 a24 a25 a26 a27 a28 a29 a30 a31 n u
  obtain ⟨ie, hie⟩ : ∃ ie, Tryd.prog.info? 61 = some ie := by
    cases h : Tryd.prog.info? 61 with
    | none => have := item_size; rw [h] at this; cases this
    | some i => exact ⟨i, rfl⟩
  have hs : ie.size = 33 := by have := item_size; rw [hie] at this; simpa using this
  obtain ⟨z, hz, hzf⟩ : ∃ z, ie.zero = some z ∧ Instr.fill (fun i => some (i * ie.size, ie.size)) ((Array.range (1 * ie.size)).map (z.cells[· % z.cells.size]!)) [(0, itv ([a0, a1, a2, a3, a4, a5, a6, a7, a8, a9, a10, a11, a12, a13, a14, a15, a16, a17, a18, a19, a20, a21, a22, a23, a24, a25, a26, a27, a28, a29, a30, a31], n))] = some (icells ([a0, a1, a2, a3, a4, a5, a6, a7, a8, a9, a10, a11, a12, a13, a14, a15, a16, a17, a18, a19, a20, a21, a22, a23, a24, a25, a26, a27, a28, a29, a30, a31], n)).toArray := by
    have hzz : (Tryd.prog.info? 61).bind (·.zero) = some (itv (List.replicate 32 0, 0)) := by kernel_rfl
    rw [hie] at hzz
    refine ⟨_, hzz, ?_⟩
    rw [hs]
    kernel_rfl
  exact run_buildSlice u _ 61 1 _ _ ie z Tryd.underlying29 hie hz (by rw [hs]; decide) (by rw [hs]; decide) hzf

end Go.Proofs.YtnokloedbckijaaDoor

/-
  Items compared by == and !=; the reference's SameItems; parameters compared.
-/
namespace Go.Proofs.YtnokloedbckijaaDoor
open Go.RowKit
set_option linter.unusedVariables false
set_option maxRecDepth 20000

theorem part_name (x : Itm) (hx : x.1.length = 32) (u : World) : (part 42 (icells x).toArray 0).run Tryd.prog u = .ok (dv x.1) u := by
  obtain ⟨l, n⟩ := x
  have hl : l.length = 32 := hx
  clear hx
  revert n u
  refine by32 (C := fun l => ∀ (u : World) (n : Int), (part 42 (icells (l, n)).toArray 0).run Tryd.prog u = .ok (dv l) u) ?_ l hl
  intros
  kernel_rfl
theorem part_size (x : Itm) (hx : x.1.length = 32) (u : World) : (part 3 (icells x).toArray 32).run Tryd.prog u = .ok (.int .i64 x.2) u := by
  obtain ⟨l, n⟩ := x
  have hl : l.length = 32 := hx
  clear hx
  revert n u
  refine by32 (C := fun l => ∀ (u : World) (n : Int), (part 3 (icells (l, n)).toArray 32).run Tryd.prog u = .ok (.int .i64 n) u) ?_ l hl
  intros
  kernel_rfl
theorem equal_dig (d : Nat) (la lb : List UInt8) (ha : la.length = 32) (hb : lb.length = 32) (u : World) : (Op.equalIn (d + 2) 42 (dv la) (dv lb)).run Tryd.prog u = .ok (la == lb) u := by
  obtain ⟨i, hi⟩ := info_of_underlying (P := Tryd.prog) Tryd.underlying5
  have h := run_equalIn_array (P := Tryd.prog) u (d + 1) (t := 42) (la.map bv).toArray (lb.map bv).toArray Tryd.underlying42 hi
  rw [show Tryd.prog.cellsOf 5 = 1 by kernel_rfl, run_items_bytes u d Tryd.underlying5 la lb (List.range 32) (fun j hj => by have := List.mem_range.1 hj; omega), all_eq la lb 32 ha hb] at h
  exact h
theorem item_eqIn (d : Nat) (x y : Itm) (hx : x.1.length = 32) (hy : y.1.length = 32) (u : World) : (Op.equalIn (d + 3) 61 (itv x) (itv y)).run Tryd.prog u = .ok (x == y) u := by
  have hf : (Tryd.prog.fieldsOf 61).toList.map (fun f => (f.name, f.type, f.offset)) = [("Name", 42, 0), ("Size", 3, 32)] := by kernel_rfl
  rw [run_equalIn_struct u (d + 2) 61 _ _ (by kernel_rfl) (by kernel_rfl)]
  generalize (Tryd.prog.fieldsOf 61).toList = fs at *
  cases fs with
  | nil => simp at hf
  | cons a fs =>
    cases fs with
    | nil => simp at hf
    | cons b fs =>
      cases fs with
      | nil =>
        simp only [List.map_cons, List.map_nil, List.cons.injEq, Prod.mk.injEq, and_true] at hf
        obtain ⟨⟨a1, a2, a3⟩, b1, b2, b3⟩ := hf
        have e1 := equal_dig d x.1 y.1 hx hy u
        have e2 := run_equalIn_int (P := Tryd.prog) u (d + 1) 3 .i64 .i64 x.2 y.2 Tryd.underlying3
        have hxy : (x == y) = ((x.1 == y.1) && (x.2 == y.2)) := by cases x; cases y; rfl
        simp only [Op.eqFields, a1, a2, a3, b1, b2, b3, ne_eq, show ¬ ("Name" = "_") from by decide, show ¬ ("Size" = "_") from by decide, not_false_eq_true, if_true, Sem.run_bind, part_name x hx, part_name y hy, part_size x hx, part_size y hy, Result.andThen_ok, e1, e2, Sem.run_ite]
        rw [hxy]
        cases (x.1 == y.1) <;> cases (x.2 == y.2) <;> simp [Sem.run_pure]
      | cons c fs => simp at hf
theorem item_ne (x y : Itm) (hx : x.1.length = 32) (hy : y.1.length = 32) (u : World) : (binOp .neq 61 (itv x) (itv y)).run Tryd.prog u = .ok (.bool !(x == y)) u := by
  have h := item_eqIn 9997 x y hx hy u
  simp only [binOp]
  simp [Op.equal, Op.maxDepth, h]
theorem item_eq (x y : Itm) (hx : x.1.length = 32) (hy : y.1.length = 32) (u : World) : (binOp .eql 61 (itv x) (itv y)).run Tryd.prog u = .ok (.bool (x == y)) u := by
  have h := item_eqIn 9997 x y hx hy u
  simp only [binOp]
  simp [Op.equal, Op.maxDepth, h]
theorem eq_step' {α : Type} {xs ys : List α} {k : Nat} {x y : α} (hx : xs[k]? = some x) (hy : ys[k]? = some y) (h : xs.take k = ys.take k) (e : x = y) : xs.take (k + 1) = ys.take (k + 1) := by
  obtain ⟨h1, e1⟩ := List.getElem?_eq_some_iff.1 hx
  obtain ⟨h2, e2⟩ := List.getElem?_eq_some_iff.1 hy
  rw [List.take_succ_eq_append_getElem h1, List.take_succ_eq_append_getElem h2, h, e1, e2, e]

set_option maxHeartbeats 2000000 in
theorem rsameitems_any (A1 : Option Addr) (n1 c1 : Nat) (xs : List Itm) (A2 : Option Addr) (n2 c2 : Nat) (ys : List Itm) (w : World) (l1 : xs.length = n1) (l2 : ys.length = n2) (m1 : n1 ≤ maxLen) (m2 : n2 ≤ maxLen) (o1 : ∀ it ∈ xs, it.1.length = 32) (o2 : ∀ it ∈ ys, it.1.length = 32) (h1 : Recs w A1 33 (xs.map icells)) (h2 : Recs w A2 33 (ys.map icells)) :
    Calls Tryd.prog 16 #[.slice A1 n1 c1, .slice A2 n2 c2] w fun e w' => e = .returned (.bool (xs == ys)) ∧ Grows w w' := by
  unfold maxLen at m1 m2
  obtain ⟨R, hR⟩ : ∃ R, R = (xs == ys) := ⟨_, rfl⟩
  rw [← hR]
  have HR := Lib.hid hR
  have L1 := Lib.hid l1
  have L2 := Lib.hid l2
  clear hR l1 l2
  by_cases hn : n1 = n2
  · subst hn
    go_enter Tryd.func16, Tryd.ntmps16
    go_wp2
    go_loopw [5] (fun i wr => ∃ k : Nat, k ≤ n1 ∧ i = .int .i64 k ∧ Grows w wr ∧ Hid (xs.take k = ys.take k)) (fun i _ => n1 - (intOf i).toNat)
    case atStart => exact ⟨0, Nat.zero_le _, rfl, Grows.refl _, rfl⟩
    case round =>
      obtain ⟨k, k1, rfl, hg, HE⟩ := hrel
      by_cases hlt : k < n1
      · obtain ⟨x, hx⟩ : ∃ x, xs[k]? = some x := ⟨_, List.getElem?_eq_getElem (by rw [L1.out]; exact hlt)⟩
        obtain ⟨y, hy⟩ : ∃ y, ys[k]? = some y := ⟨_, List.getElem?_eq_getElem (by rw [L2.out]; exact hlt)⟩
        have lx := o1 x (List.mem_of_getElem? hx)
        have ly := o2 y (List.mem_of_getElem? hy)
        obtain ⟨ad, rfl, _, cx⟩ := h1.at_ (by decide) (i := k) (r := icells x) (by rw [List.getElem?_map, hx]; rfl)
        obtain ⟨bd, rfl, _, cy⟩ := h2.at_ (by decide) (i := k) (r := icells y) (by rw [List.getElem?_map, hy]; rfl)
        have hgd := Grows.trans hg (Grows.refl wr).drew
        have ldx : ∀ u, Grows wr.drew u → (Instr.loadAt 61 (.pointer (some (ad.add (k * 33))))).run Tryd.prog u = .ok (itv x) u := fun u hu =>
          load_any u _ _ (icells x) _ (fun j v hv => by rw [add_add_addr]; exact hcell_later (cx j v hv) (Grows.trans hgd hu)) Tryd.underlying61 rfl (by rw [icells_len lx]; exact item_size)
        have ldy : ∀ u, Grows wr.drew u → (Instr.loadAt 61 (.pointer (some (bd.add (k * 33))))).run Tryd.prog u = .ok (itv y) u := fun u hu =>
          load_any u _ _ (icells y) _ (fun j v hv => by rw [add_add_addr]; exact hcell_later (cy j v hv) (Grows.trans hgd hu)) Tryd.underlying61 rfl (by rw [icells_len ly]; exact item_size)
        have q0 : (0 : Int) ≤ (k : Int) := Int.natCast_nonneg _
        have q1 : (k : Int) < (n1 : Int) := by omega
        have hne := fun u => item_ne x y lx ly u
        have HX := Lib.hid hx
        have HY := Lib.hid hy
        have hO := Grows.refl wr.drew
        clear hx hy cx cy lx ly
        by_cases e : x = y
        · have eb : (x == y) = true := by rw [beq_iff_eq]; exact e
          rw [eb] at hne
          have EQ := Lib.hid e
          clear eb e
          go_wp2_with fail
          refine wp_region_ord 9 [(0, true), (1, true), (2, true), (3, true), (4, true), (5, true), (6, true), (7, true), (8, true)] (by kernel_rfl) (by kernel_rfl) ?_
          repeat (first | (refine ord_load hO _ _ (by simp only [List.getElem?_cons_succ, List.getElem?_cons_zero]; rfl) (by rfl) 61 (.tmp 19) (by rfl) _ (by rfl) ldx ?_; try simp only [Act.put, List.setIfInBounds_toArray, List.set_cons_zero, List.set_cons_succ]) | (refine ord_load hO _ _ (by simp only [List.getElem?_cons_succ, List.getElem?_cons_zero]; rfl) (by rfl) 61 (.tmp 23) (by rfl) _ (by rfl) ldy ?_; try simp only [Act.put, List.setIfInBounds_toArray, List.set_cons_zero, List.set_cons_succ]) | (refine ord_take hO _ ?_ (by simp only [List.getElem?_cons_succ, List.getElem?_cons_zero]; rfl) (by rfl) ?_ ?_; rotate_left; (· (intro u hu0 hu; (try go_simp); (try with_reducible rfl))); try simp only [Act.put, List.setIfInBounds_toArray, List.set_cons_zero, List.set_cons_succ]) | (refine ord_skip _ (by simp only [List.getElem?_cons_succ, List.getElem?_cons_zero]; rfl) (by rfl) ?_; try simp only [Act.put, List.setIfInBounds_toArray, List.set_cons_zero, List.set_cons_succ]))
          refine ord_done (fun w4 hu => ?_)
          simp only [List.drop_succ_cons, List.drop_zero]
          have hg4 := Grows.trans hgd hu
          clear hO hu ldx ldy hne
          go_wp2_with fail
          refine NoPanic.normal ?_
          go_wp2_with fail
          go_roundw
          case rel => exact ⟨k + 1, by omega, by go_num, hg4, eq_step' HX.out HY.out HE.out EQ.out⟩
          case measure => simp [intOf]; omega
        · have eb : (x == y) = false := by rw [beq_eq_false_iff_ne]; exact e
          rw [eb] at hne
          have hN : R = false := by
            rw [HR.out, beq_eq_false_iff_ne]
            intro q
            rw [q, HY.out] at HX
            exact e (Option.some.inj HX.out).symm
          have HN := Lib.hid hN
          clear eb hN e
          go_wp2_with fail
          refine wp_region_ord 9 [(0, true), (1, true), (2, true), (3, true), (4, true), (5, true), (6, true), (7, true), (8, true)] (by kernel_rfl) (by kernel_rfl) ?_
          repeat (first | (refine ord_load hO _ _ (by simp only [List.getElem?_cons_succ, List.getElem?_cons_zero]; rfl) (by rfl) 61 (.tmp 19) (by rfl) _ (by rfl) ldx ?_; try simp only [Act.put, List.setIfInBounds_toArray, List.set_cons_zero, List.set_cons_succ]) | (refine ord_load hO _ _ (by simp only [List.getElem?_cons_succ, List.getElem?_cons_zero]; rfl) (by rfl) 61 (.tmp 23) (by rfl) _ (by rfl) ldy ?_; try simp only [Act.put, List.setIfInBounds_toArray, List.set_cons_zero, List.set_cons_succ]) | (refine ord_take hO _ ?_ (by simp only [List.getElem?_cons_succ, List.getElem?_cons_zero]; rfl) (by rfl) ?_ ?_; rotate_left; (· (intro u hu0 hu; (try go_simp); (try with_reducible rfl))); try simp only [Act.put, List.setIfInBounds_toArray, List.set_cons_zero, List.set_cons_succ]) | (refine ord_skip _ (by simp only [List.getElem?_cons_succ, List.getElem?_cons_zero]; rfl) (by rfl) ?_; try simp only [Act.put, List.setIfInBounds_toArray, List.set_cons_zero, List.set_cons_succ]))
          refine ord_done (fun w4 hu => ?_)
          simp only [List.drop_succ_cons, List.drop_zero]
          have hg4 := Grows.trans hgd hu
          clear hO hu ldx ldy hne
          go_wp2_with fail
          refine NoPanic.normal ?_
          go_wp2_with fail
          go_ret
          exact ⟨by rw [HN.out]; rfl, hg4⟩
      · obtain rfl : k = n1 := by omega
        have hN : R = true := by
          have e := HE.out
          rw [List.take_of_length_le (by rw [L1.out]; omega), List.take_of_length_le (by rw [L2.out]; omega)] at e
          rw [HR.out, beq_iff_eq, e]
        have HN := Lib.hid hN
        clear hN
        go_wp2
        go_ret
        exact ⟨by rw [HN.out]; rfl, hg⟩
  · have hN : R = false := by
      rw [HR.out, beq_eq_false_iff_ne]
      intro q
      have e1 := L1.out
      have e2 := L2.out
      rw [q] at e1
      omega
    have HN := Lib.hid hN
    have hne : ¬ ((n1 : Int) = (n2 : Int)) := by omega
    clear hN
    go_enter Tryd.func16, Tryd.ntmps16
    go_wp2
    go_ret
    exact ⟨by rw [HN.out]; rfl, Grows.refl _⟩

set_option maxHeartbeats 2000000 in
theorem eqitems_any (A1 : Option Addr) (n1 c1 : Nat) (xs : List Itm) (A2 : Option Addr) (n2 c2 : Nat) (ys : List Itm) (w : World) (l1 : xs.length = n1) (l2 : ys.length = n2) (m1 : n1 ≤ maxLen) (m2 : n2 ≤ maxLen) (o1 : ∀ it ∈ xs, it.1.length = 32) (o2 : ∀ it ∈ ys, it.1.length = 32) (h1 : Recs w A1 33 (xs.map icells)) (h2 : Recs w A2 33 (ys.map icells)) :
    Calls Tryd.prog 64 #[.slice A1 n1 c1, .slice A2 n2 c2] w fun e w' => e = .returned (.bool (xs == ys)) ∧ Grows w w' := by
  unfold maxLen at m1 m2
  obtain ⟨R, hR⟩ : ∃ R, R = (xs == ys) := ⟨_, rfl⟩
  rw [← hR]
  have HR := Lib.hid hR
  have L1 := Lib.hid l1
  have L2 := Lib.hid l2
  clear hR l1 l2
  by_cases hn : n1 = n2
  · subst hn
    go_enter Tryd.func64, Tryd.ntmps64
    go_wp2
    go_loopw [13] (fun i wr => ∃ k : Nat, k ≤ n1 ∧ i = .int .i64 k ∧ Grows w wr ∧ Hid (xs.take k = ys.take k)) (fun i _ => n1 - (intOf i).toNat)
    case atStart => exact ⟨0, Nat.zero_le _, rfl, Grows.refl _, rfl⟩
    case round =>
      obtain ⟨k, k1, rfl, hg, HE⟩ := hrel
      by_cases hlt : k < n1
      · obtain ⟨x, hx⟩ : ∃ x, xs[k]? = some x := ⟨_, List.getElem?_eq_getElem (by rw [L1.out]; exact hlt)⟩
        obtain ⟨y, hy⟩ : ∃ y, ys[k]? = some y := ⟨_, List.getElem?_eq_getElem (by rw [L2.out]; exact hlt)⟩
        have lx := o1 x (List.mem_of_getElem? hx)
        have ly := o2 y (List.mem_of_getElem? hy)
        obtain ⟨ad, rfl, _, cx⟩ := h1.at_ (by decide) (i := k) (r := icells x) (by rw [List.getElem?_map, hx]; rfl)
        obtain ⟨bd, rfl, _, cy⟩ := h2.at_ (by decide) (i := k) (r := icells y) (by rw [List.getElem?_map, hy]; rfl)
        have hgd := Grows.trans hg (Grows.refl wr).drew
        have ldx : ∀ u, Grows wr.drew u → (Instr.loadAt 61 (.pointer (some (ad.add (k * 33))))).run Tryd.prog u = .ok (itv x) u := fun u hu =>
          load_any u _ _ (icells x) _ (fun j v hv => by rw [add_add_addr]; exact hcell_later (cx j v hv) (Grows.trans hgd hu)) Tryd.underlying61 rfl (by rw [icells_len lx]; exact item_size)
        have ldy : ∀ u, Grows wr.drew u → (Instr.loadAt 61 (.pointer (some (bd.add (k * 33))))).run Tryd.prog u = .ok (itv y) u := fun u hu =>
          load_any u _ _ (icells y) _ (fun j v hv => by rw [add_add_addr]; exact hcell_later (cy j v hv) (Grows.trans hgd hu)) Tryd.underlying61 rfl (by rw [icells_len ly]; exact item_size)
        have q0 : (0 : Int) ≤ (k : Int) := Int.natCast_nonneg _
        have q1 : (k : Int) < (n1 : Int) := by omega
        have hne := fun u => item_ne x y lx ly u
        have HX := Lib.hid hx
        have HY := Lib.hid hy
        have hO := Grows.refl wr.drew
        clear hx hy cx cy lx ly
        by_cases e : x = y
        · have eb : (x == y) = true := by rw [beq_iff_eq]; exact e
          rw [eb] at hne
          have EQ := Lib.hid e
          clear eb e
          go_wp2_with fail
          refine wp_region_ord 9 [(0, true), (1, true), (2, true), (3, true), (4, true), (5, true), (6, true), (7, true), (8, true)] (by kernel_rfl) (by kernel_rfl) ?_
          repeat (first | (refine ord_load hO _ _ (by simp only [List.getElem?_cons_succ, List.getElem?_cons_zero]; rfl) (by rfl) 61 (.tmp 18) (by rfl) _ (by rfl) ldx ?_; try simp only [Act.put, List.setIfInBounds_toArray, List.set_cons_zero, List.set_cons_succ]) | (refine ord_load hO _ _ (by simp only [List.getElem?_cons_succ, List.getElem?_cons_zero]; rfl) (by rfl) 61 (.tmp 22) (by rfl) _ (by rfl) ldy ?_; try simp only [Act.put, List.setIfInBounds_toArray, List.set_cons_zero, List.set_cons_succ]) | (refine ord_take hO _ ?_ (by simp only [List.getElem?_cons_succ, List.getElem?_cons_zero]; rfl) (by rfl) ?_ ?_; rotate_left; (· (intro u hu0 hu; (try go_simp); (try with_reducible rfl))); try simp only [Act.put, List.setIfInBounds_toArray, List.set_cons_zero, List.set_cons_succ]) | (refine ord_skip _ (by simp only [List.getElem?_cons_succ, List.getElem?_cons_zero]; rfl) (by rfl) ?_; try simp only [Act.put, List.setIfInBounds_toArray, List.set_cons_zero, List.set_cons_succ]))
          refine ord_done (fun w4 hu => ?_)
          simp only [List.drop_succ_cons, List.drop_zero]
          have hg4 := Grows.trans hgd hu
          clear hO hu ldx ldy hne
          go_wp2_with fail
          refine NoPanic.normal ?_
          go_wp2_with fail
          go_roundw
          case rel => exact ⟨k + 1, by omega, by go_num, hg4, eq_step' HX.out HY.out HE.out EQ.out⟩
          case measure => simp [intOf]; omega
        · have eb : (x == y) = false := by rw [beq_eq_false_iff_ne]; exact e
          rw [eb] at hne
          have hN : R = false := by
            rw [HR.out, beq_eq_false_iff_ne]
            intro q
            rw [q, HY.out] at HX
            exact e (Option.some.inj HX.out).symm
          have HN := Lib.hid hN
          clear eb hN e
          go_wp2_with fail
          refine wp_region_ord 9 [(0, true), (1, true), (2, true), (3, true), (4, true), (5, true), (6, true), (7, true), (8, true)] (by kernel_rfl) (by kernel_rfl) ?_
          repeat (first | (refine ord_load hO _ _ (by simp only [List.getElem?_cons_succ, List.getElem?_cons_zero]; rfl) (by rfl) 61 (.tmp 18) (by rfl) _ (by rfl) ldx ?_; try simp only [Act.put, List.setIfInBounds_toArray, List.set_cons_zero, List.set_cons_succ]) | (refine ord_load hO _ _ (by simp only [List.getElem?_cons_succ, List.getElem?_cons_zero]; rfl) (by rfl) 61 (.tmp 22) (by rfl) _ (by rfl) ldy ?_; try simp only [Act.put, List.setIfInBounds_toArray, List.set_cons_zero, List.set_cons_succ]) | (refine ord_take hO _ ?_ (by simp only [List.getElem?_cons_succ, List.getElem?_cons_zero]; rfl) (by rfl) ?_ ?_; rotate_left; (· (intro u hu0 hu; (try go_simp); (try with_reducible rfl))); try simp only [Act.put, List.setIfInBounds_toArray, List.set_cons_zero, List.set_cons_succ]) | (refine ord_skip _ (by simp only [List.getElem?_cons_succ, List.getElem?_cons_zero]; rfl) (by rfl) ?_; try simp only [Act.put, List.setIfInBounds_toArray, List.set_cons_zero, List.set_cons_succ]))
          refine ord_done (fun w4 hu => ?_)
          simp only [List.drop_succ_cons, List.drop_zero]
          have hg4 := Grows.trans hgd hu
          clear hO hu ldx ldy hne
          go_wp2_with fail
          refine NoPanic.normal ?_
          go_wp2_with fail
          go_ret
          exact ⟨by rw [HN.out]; rfl, hg4⟩
      · obtain rfl : k = n1 := by omega
        have hN : R = true := by
          have e := HE.out
          rw [List.take_of_length_le (by rw [L1.out]; omega), List.take_of_length_le (by rw [L2.out]; omega)] at e
          rw [HR.out, beq_iff_eq, e]
        have HN := Lib.hid hN
        clear hN
        go_wp2
        go_ret
        exact ⟨by rw [HN.out]; rfl, hg⟩
  · have hN : R = false := by
      rw [HR.out, beq_eq_false_iff_ne]
      intro q
      have e1 := L1.out
      have e2 := L2.out
      rw [q] at e1
      omega
    have HN := Lib.hid hN
    have hne : ¬ ((n1 : Int) = (n2 : Int)) := by omega
    clear hN
    go_enter Tryd.func64, Tryd.ntmps64
    go_wp2
    go_ret
    exact ⟨by rw [HN.out]; rfl, Grows.refl _⟩
end Go.Proofs.YtnokloedbckijaaDoor

/-
  Contracts of cut.New, cut.Sizes, cut.Items at parameters that may not be; of the reference's May at any.
-/
namespace Go.Proofs.YtnokloedbckijaaDoor
open Go.RowKit
set_option linter.unusedVariables false
set_option maxRecDepth 20000

/-- Parameters that may be, as numbers. -/
theorem prm_of {a b c : Int} (h : mayZ a b c = true) : ∃ p : Prm, p.Ok ∧ a = p.mn ∧ b = p.av ∧ c = p.mx := by
  simp only [mayZ, decide_eq_true_eq] at h
  exact ⟨⟨a.toNat, b.toNat, c.toNat⟩, ⟨by show 1 ≤ a.toNat; omega, by show a.toNat ≤ b.toNat; omega, by show b.toNat ≤ c.toNat; omega, by show c.toNat ≤ 4096; omega⟩, by show a = (a.toNat : Int); omega, by show b = (b.toNat : Int); omega, by show c = (c.toNat : Int); omega⟩

theorem rmay_any (a b c : Int) (w : World) :
    Calls Tryd.prog 28 #[pz a b c] w fun e w' => e = .returned (.bool (mayZ a b c)) ∧ Grows w w' := by
  have hga := grows_alloc w (.cells #[.int .i64 a, .int .i64 b, .int .i64 c] 24)
  by_cases h1 : 0 < a
  · by_cases h2 : a ≤ b
    · by_cases h3 : b ≤ c
      · by_cases h4 : c < 4097
        · have hm : mayZ a b c = true := by simp only [mayZ, decide_eq_true_eq]; omega
          rw [hm]
          have d1 : decide (a > 0) = true := by simp [h1]
          have d1' : decide (0 < a) = true := by simp [h1]
          have d2 : decide (a ≤ b) = true := by simp [h2]
          have d3 : decide (b ≤ c) = true := by simp [h3]
          have d4 : decide (c < 4097) = true := by simp [h4]
          unfold pz
          go_enter Tryd.func28, Tryd.ntmps28
          go_wp2
          go_ret
          exact ⟨rfl, hga⟩
        · have hm : mayZ a b c = false := by simp only [mayZ, decide_eq_false_iff_not]; omega
          rw [hm]
          have d1 : decide (a > 0) = true := by simp [h1]
          have d1' : decide (0 < a) = true := by simp [h1]
          have d2 : decide (a ≤ b) = true := by simp [h2]
          have d3 : decide (b ≤ c) = true := by simp [h3]
          have d4 : decide (c < 4097) = false := by simp; omega
          unfold pz
          go_enter Tryd.func28, Tryd.ntmps28
          go_wp2
          go_ret
          exact ⟨rfl, hga⟩
      · have hm : mayZ a b c = false := by simp only [mayZ, decide_eq_false_iff_not]; omega
        rw [hm]
        have d1 : decide (a > 0) = true := by simp [h1]
        have d1' : decide (0 < a) = true := by simp [h1]
        have d2 : decide (a ≤ b) = true := by simp [h2]
        have d3 : decide (b ≤ c) = false := by simp [h3]
        unfold pz
        go_enter Tryd.func28, Tryd.ntmps28
        go_wp2
        go_ret
        exact ⟨rfl, hga⟩
    · have hm : mayZ a b c = false := by simp only [mayZ, decide_eq_false_iff_not]; omega
      rw [hm]
      have d1 : decide (a > 0) = true := by simp [h1]
      have d1' : decide (0 < a) = true := by simp [h1]
      have d2 : decide (a ≤ b) = false := by simp [h2]
      unfold pz
      go_enter Tryd.func28, Tryd.ntmps28
      go_wp2
      go_ret
      exact ⟨rfl, hga⟩
  · have hm : mayZ a b c = false := by simp only [mayZ, decide_eq_false_iff_not]; omega
    rw [hm]
    have d1 : decide (a > 0) = false := by simp; omega
    have d1' : decide (0 < a) = false := by simp; omega
    unfold pz
    go_enter Tryd.func28, Tryd.ntmps28
    go_wp2
    go_ret
    exact ⟨rfl, hga⟩
end Go.Proofs.YtnokloedbckijaaDoor

/-
  Contracts of index.Total and of the reference's.
-/
namespace Go.Proofs.YtnokloedbckijaaDoor
open Go.RowKit
set_option linter.unusedVariables false
set_option maxRecDepth 20000

theorem xc_its {x : Ixd} (hx : x.im.length = 32) (A : Option Addr) (c : Nat) : (xcells x A c)[35]? = some (.slice A x.its.length c) := by
  unfold xcells
  rw [List.getElem?_append_right (by simp), List.getElem?_append_right (by simp [hx])]
  simp [hx]
theorem cell_off {w : World} {a : Addr} {j : Nat} {u : Value} (h : w.cell? (a.add (j + 1)) = some u) : w.cell? ⟨a.block, a.off + (j + 1), none⟩ = some u := by simpa [Addr.add] using h
theorem ic_size {it : Itm} (h : it.1.length = 32) : (icells it)[32]? = some (.int .i64 it.2) := by
  unfold icells
  rw [List.getElem?_append_right (by simp [h])]
  simp [h]

set_option maxHeartbeats 2000000 in
theorem total_any (x : Ixd) (A : Option Addr) (c : Nat) (w : World) (hx : x.im.length = 32) (ho : ∀ it ∈ x.its, it.1.length = 32) (hI : Recs w A 33 (x.its.map icells)) (hz : ∀ it ∈ x.its, 1 ≤ it.2 ∧ it.2 ≤ 1000000000) (hn : x.its.length ≤ 1000000) :
    Calls Tryd.prog 26 #[xval x A c] w fun e w' => e = .returned (.int .i64 (total x.its)) ∧ Grows w w' := by
  have hb := Has.new w 44 (xcells x A c)
  have hg0 := grows_alloc w (.cells (xcells x A c).toArray 44)
  have h35 := xc_its hx A c
  have HTT := Lib.hid (rfl : total x.its = total x.its)
  unfold xval
  generalize xcells x A c = vs at *
  generalize x.its = l at *
  obtain ⟨N, hN⟩ : ∃ N, N = l.length := ⟨_, rfl⟩
  rw [← hN] at hn h35
  have HN := Lib.hid hN
  clear hN hx
  have P35 := hb.cell h35
  have hI1 := hI.later hg0
  go_enter Tryd.func26, Tryd.ntmps26
  go_wp2_with fail
  change Code.wp _ _ _ _ (w.alloc (.cells vs.toArray 44))
  generalize w.alloc (.cells vs.toArray 44) = w0 at *
  go_loopw [3, 9] (fun s i wr => ∃ k : Nat, k ≤ N ∧ s = .int .i64 (total (l.take k)) ∧ i = .int .i64 (k : Int) ∧ Grows w0 wr) (fun _ i _ => N - (intOf i).toNat)
  case atStart => exact ⟨0, Nat.zero_le _, rfl, rfl, Grows.refl _⟩
  case round =>
    obtain ⟨k, hk, rfl, rfl, hg⟩ := hrel
    have P35r := (hb.later hg).cell h35
    by_cases hlt : k < N
    · obtain ⟨it, hit⟩ : ∃ it, l[k]? = some it := ⟨_, List.getElem?_eq_getElem (by rw [← HN.out]; exact hlt)⟩
      have hmem := List.mem_of_getElem? hit
      obtain ⟨ad, rfl, _, cx⟩ := hI1.at_ (by decide) (i := k) (r := icells it) (by rw [List.getElem?_map, hit]; rfl)
      have lx := ho it hmem
      have HT : Hid (total (l.take (k + 1)) = total (l.take k) + it.2) := total_take hit
      have hb1 := total_bounds (l := l.take k) (c := 1000000000) (fun y hy => hz y (List.mem_of_mem_take hy))
      have hlk : (l.take k).length = k := by rw [List.length_take, ← HN.out, Nat.min_eq_left hk]
      rw [hlk] at hb1
      have hz1 := hz it hmem
      have hic := icells_len lx
      have hio := icells_one it
      have hc32 := ic_size lx
      have ldk : (Instr.loadAt 61 (.pointer (some (ad.add (k * 33))))).run Tryd.prog wr = .ok (.agg (icells it).toArray) wr :=
        load_any wr _ _ (icells it) _ (fun j v hv => by rw [add_add_addr]; exact hcell_later (cx j v hv) hg) Tryd.underlying61 rfl (by rw [hic]; exact item_size)
      have c32 : wr.cell? ⟨(ad.add (k * 33)).block, (ad.add (k * 33)).off + 32, none⟩ = some (.int .i64 it.2) := cell_off (j := 31) (by rw [add_add_addr]; exact hcell_later (cx 32 _ hc32) hg)
      have hR := Has.new wr 61 [.int .u8 0, .int .u8 0, .int .u8 0, .int .u8 0, .int .u8 0, .int .u8 0, .int .u8 0, .int .u8 0, .int .u8 0, .int .u8 0, .int .u8 0, .int .u8 0, .int .u8 0, .int .u8 0, .int .u8 0, .int .u8 0, .int .u8 0, .int .u8 0, .int .u8 0, .int .u8 0, .int .u8 0, .int .u8 0, .int .u8 0, .int .u8 0, .int .u8 0, .int .u8 0, .int .u8 0, .int .u8 0, .int .u8 0, .int .u8 0, .int .u8 0, .int .u8 0, .int .i64 0]
      have hga := grows_alloc wr (.cells ([.int .u8 0, .int .u8 0, .int .u8 0, .int .u8 0, .int .u8 0, .int .u8 0, .int .u8 0, .int .u8 0, .int .u8 0, .int .u8 0, .int .u8 0, .int .u8 0, .int .u8 0, .int .u8 0, .int .u8 0, .int .u8 0, .int .u8 0, .int .u8 0, .int .u8 0, .int .u8 0, .int .u8 0, .int .u8 0, .int .u8 0, .int .u8 0, .int .u8 0, .int .u8 0, .int .u8 0, .int .u8 0, .int .u8 0, .int .u8 0, .int .u8 0, .int .u8 0, .int .i64 0] : List Value).toArray 61)
      generalize icells it = ic at *
      generalize total (l.take k) = sm at *
      generalize it.2 = z at *
      have hki : (k : Int) < (N : Int) := by omega
      have hkk : (k : Int) * 1000000000 ≤ 1000000000000000 := by omega
      have hw : IntKind.i64.wrap (sm + z) = sm + z := IntWalk.i64_in _ (by omega)
      clear hit hmem cx hlk lx
      go_wp2_with (first | (with_reducible refine wpList_loads rfl 61 (.tmp 11) rfl _ rfl _ ldk ?_) | (refine wpList_storev rfl 61 (.tmp 5) (.tmp 12) rfl wr.heap.size _ ic 33 rfl rfl hR rfl hic item_size hio ?_; intro w3 hbox3 hbel3; have hg3 : Grows wr w3 := hbel3 _ _ (Nat.le_refl _) hga; have Q := hbox3.cell hc32))
      go_roundw
      case rel => exact ⟨k + 1, by omega, by rw [HT.out], by go_num, Grows.trans hg hg3⟩
      case measure => simp [intOf]; omega
    · obtain rfl : k = N := by omega
      have d1 : decide ((k : Int) < (k : Int)) = false := by simp
      have HT : Hid (total (l.take k) = total l) := by show _ = _; rw [List.take_of_length_le (by rw [← HN.out]; exact Nat.le_refl _)]
      generalize total (l.take k) = sm at *
      go_wp2_with fail
      go_ret
      exact ⟨congrArg (fun z : Int => Ending.returned (.int .i64 z)) HT.out, Grows.trans hg0 hg⟩

set_option maxHeartbeats 2000000 in
theorem rtotal_any (x : Ixd) (A : Option Addr) (c : Nat) (w : World) (hx : x.im.length = 32) (ho : ∀ it ∈ x.its, it.1.length = 32) (hI : Recs w A 33 (x.its.map icells)) (hz : ∀ it ∈ x.its, 1 ≤ it.2 ∧ it.2 ≤ 1000000000) (hn : x.its.length ≤ 1000000) :
    Calls Tryd.prog 37 #[xval x A c] w fun e w' => e = .returned (.int .i64 (total x.its)) ∧ Grows w w' := by
  have hb := Has.new w 49 (xcells x A c)
  have hg0 := grows_alloc w (.cells (xcells x A c).toArray 49)
  have h35 := xc_its hx A c
  have HTT := Lib.hid (rfl : total x.its = total x.its)
  unfold xval
  generalize xcells x A c = vs at *
  generalize x.its = l at *
  obtain ⟨N, hN⟩ : ∃ N, N = l.length := ⟨_, rfl⟩
  rw [← hN] at hn h35
  have HN := Lib.hid hN
  clear hN hx
  have P35 := hb.cell h35
  have hI1 := hI.later hg0
  go_enter Tryd.func37, Tryd.ntmps37
  go_wp2_with fail
  change Code.wp _ _ _ _ (w.alloc (.cells vs.toArray 49))
  generalize w.alloc (.cells vs.toArray 49) = w0 at *
  go_loopw [3, 4] (fun s i wr => ∃ k : Nat, k ≤ N ∧ s = .int .i64 (total (l.take k)) ∧ i = .int .i64 (k : Int) ∧ Grows w0 wr) (fun _ i _ => N - (intOf i).toNat)
  case atStart => exact ⟨0, Nat.zero_le _, rfl, rfl, Grows.refl _⟩
  case round =>
    obtain ⟨k, hk, rfl, rfl, hg⟩ := hrel
    have P35r := (hb.later hg).cell h35
    by_cases hlt : k < N
    · obtain ⟨it, hit⟩ : ∃ it, l[k]? = some it := ⟨_, List.getElem?_eq_getElem (by rw [← HN.out]; exact hlt)⟩
      have hmem := List.mem_of_getElem? hit
      obtain ⟨ad, rfl, _, cx⟩ := hI1.at_ (by decide) (i := k) (r := icells it) (by rw [List.getElem?_map, hit]; rfl)
      have lx := ho it hmem
      have HT : Hid (total (l.take (k + 1)) = total (l.take k) + it.2) := total_take hit
      have hb1 := total_bounds (l := l.take k) (c := 1000000000) (fun y hy => hz y (List.mem_of_mem_take hy))
      have hlk : (l.take k).length = k := by rw [List.length_take, ← HN.out, Nat.min_eq_left hk]
      rw [hlk] at hb1
      have hz1 := hz it hmem
      have hic := icells_len lx
      have hio := icells_one it
      have hc32 := ic_size lx
      have ldk : (Instr.loadAt 61 (.pointer (some (ad.add (k * 33))))).run Tryd.prog wr = .ok (.agg (icells it).toArray) wr :=
        load_any wr _ _ (icells it) _ (fun j v hv => by rw [add_add_addr]; exact hcell_later (cx j v hv) hg) Tryd.underlying61 rfl (by rw [hic]; exact item_size)
      have c32 : wr.cell? ⟨(ad.add (k * 33)).block, (ad.add (k * 33)).off + 32, none⟩ = some (.int .i64 it.2) := cell_off (j := 31) (by rw [add_add_addr]; exact hcell_later (cx 32 _ hc32) hg)
      have hR := Has.new wr 61 [.int .u8 0, .int .u8 0, .int .u8 0, .int .u8 0, .int .u8 0, .int .u8 0, .int .u8 0, .int .u8 0, .int .u8 0, .int .u8 0, .int .u8 0, .int .u8 0, .int .u8 0, .int .u8 0, .int .u8 0, .int .u8 0, .int .u8 0, .int .u8 0, .int .u8 0, .int .u8 0, .int .u8 0, .int .u8 0, .int .u8 0, .int .u8 0, .int .u8 0, .int .u8 0, .int .u8 0, .int .u8 0, .int .u8 0, .int .u8 0, .int .u8 0, .int .u8 0, .int .i64 0]
      have hga := grows_alloc wr (.cells ([.int .u8 0, .int .u8 0, .int .u8 0, .int .u8 0, .int .u8 0, .int .u8 0, .int .u8 0, .int .u8 0, .int .u8 0, .int .u8 0, .int .u8 0, .int .u8 0, .int .u8 0, .int .u8 0, .int .u8 0, .int .u8 0, .int .u8 0, .int .u8 0, .int .u8 0, .int .u8 0, .int .u8 0, .int .u8 0, .int .u8 0, .int .u8 0, .int .u8 0, .int .u8 0, .int .u8 0, .int .u8 0, .int .u8 0, .int .u8 0, .int .u8 0, .int .u8 0, .int .i64 0] : List Value).toArray 61)
      generalize icells it = ic at *
      generalize total (l.take k) = sm at *
      generalize it.2 = z at *
      have hki : (k : Int) < (N : Int) := by omega
      have hkk : (k : Int) * 1000000000 ≤ 1000000000000000 := by omega
      have hw : IntKind.i64.wrap (sm + z) = sm + z := IntWalk.i64_in _ (by omega)
      clear hit hmem cx hlk lx
      go_wp2
      go_roundw
      case rel => exact ⟨k + 1, by omega, by rw [HT.out], by go_num, hg⟩
      case measure => simp [intOf]; omega
    · obtain rfl : k = N := by omega
      have d1 : decide ((k : Int) < (k : Int)) = false := by simp
      have HT : Hid (total (l.take k) = total l) := by show _ = _; rw [List.take_of_length_le (by rw [← HN.out]; exact Nat.le_refl _)]
      generalize total (l.take k) = sm at *
      go_wp2_with fail
      go_ret
      exact ⟨congrArg (fun z : Int => Ending.returned (.int .i64 z)) HT.out, Grows.trans hg0 hg⟩
end Go.Proofs.YtnokloedbckijaaDoor

/-
  Contract of index.May.
-/
namespace Go.Proofs.YtnokloedbckijaaDoor
open Go.RowKit
set_option linter.unusedVariables false
set_option maxRecDepth 20000

theorem ix_size : (Tryd.prog.info? 44).map (·.size) = some 36 := by kernel_rfl
theorem inv_step {l : List Itm} {a c : Int} {N k : Nat} {it : Itm} {z : Int} (h : ∀ j y, j < k → l[j]? = some y → sizeOk a c N j y.2) (hit : l[k]? = some it) (hs : sizeOk a c N k it.2) : ∀ j y, j < k + 1 → l[j]? = some y → sizeOk a c N j y.2 := fun j y hj hy => by
  rcases Nat.lt_or_ge j k with h1 | h1
  · exact h j y h1 hy
  · obtain rfl : j = k := by omega
    rw [hit] at hy
    injection hy with hy
    rw [← hy]; exact hs

set_option maxHeartbeats 4000000 in
theorem imay_any (x : Ixd) (A : Option Addr) (c : Nat) (w : World) (hx : x.Ok) (hI : Recs w A 33 (x.its.map icells)) (hn : x.its.length ≤ maxLen) :
    Calls Tryd.prog 25 #[xval x A c] w fun e w' => e = .returned (.bool (mayI x)) ∧ Grows w w' := by
  unfold maxLen at hn
  obtain ⟨R, hR⟩ : ∃ R, R = mayI x := ⟨_, rfl⟩
  rw [← hR]
  have HR := Lib.hid hR
  clear hR
  have hb := Has.new w 44 (xcells x A c)
  have hg0 := grows_alloc w (.cells (xcells x A c).toArray 44)
  have h35 := xc_its hx.im A c
  have h0 : (xcells x A c)[0]? = some (.int .i64 x.a) := rfl
  have h1 : (xcells x A c)[1]? = some (.int .i64 x.b) := rfl
  have h2 : (xcells x A c)[2]? = some (.int .i64 x.c) := rfl
  have hvl := xcells_len hx.im A c
  have TT := fun u (h1 : Recs u A 33 (x.its.map icells)) (h2 : ∀ it ∈ x.its, 1 ≤ it.2 ∧ it.2 ≤ 1000000000) (h3 : x.its.length ≤ 1000000) => total_any x A c u hx.im (fun it hi => (hx.its it hi).1) h1 h2 h3
  have M0 := fun u => may_any x.a x.b x.c u
  unfold pz at M0
  unfold xval at *
  generalize xcells x A c = vs at *
  obtain ⟨N, hN⟩ : ∃ N, N = x.its.length := ⟨_, rfl⟩
  rw [← hN] at hn h35
  have HN := Lib.hid hN
  clear hN
  have P0 := hb.cell h0
  have P1 := hb.cell h1
  have P2 := hb.cell h2
  have P35 := hb.cell h35
  have hI1 := hI.later hg0
  have hxa := hx.a
  have hxb := hx.b
  have hxc := hx.c
  unfold I64 at hxa hxb hxc
  have TT := Lib.hid TT
  have M0 := Lib.hid M0
  by_cases hz : mayZ x.a x.b x.c = true
  · have hzi := mayZ_iff.1 hz
    rw [hz] at M0
    by_cases hbig : N > 4096
    · have hM : R = false := by rw [HR.out]; exact mayI_false (fun h => by have := h.few; rw [← HN.out] at this; omega)
      have HM := Lib.hid hM
      clear hM
      have e1 : decide ((N : Int) > 4096) = true := by simp; omega
      have e2 : decide ((4096 : Int) < (N : Int)) = true := by simp; omega
      have e3 : (4096 : Int) < (N : Int) := by omega
      go_enter Tryd.func25, Tryd.ntmps25
      go_wp2_with fail
      change Calls _ _ _ (w.alloc (.cells vs.toArray 44)) _
      generalize w.alloc (.cells vs.toArray 44) = w0 at *
      refine (M0.out _).mono ?_
      rintro e w1 ⟨rfl, hg1⟩
      have P35' := hcell_later P35 hg1
      go_wp2_with fail
      go_ret
      exact ⟨by rw [HM.out]; rfl, Grows.trans hg0 hg1⟩
    · have e1 : decide ((N : Int) > 4096) = false := by simp; omega
      have e2 : decide ((4096 : Int) < (N : Int)) = false := by simp; omega
      have e3 : ¬ (4096 : Int) < (N : Int) := by omega
      have hwn : IntKind.i64.wrap ((N : Int) - 1) = (N : Int) - 1 := IntWalk.i64_in _ (by omega)
      go_enter Tryd.func25, Tryd.ntmps25
      go_wp2_with fail
      change Calls _ _ _ (w.alloc (.cells vs.toArray 44)) _
      generalize w.alloc (.cells vs.toArray 44) = w0 at *
      refine (M0.out _).mono ?_
      rintro e w1 ⟨rfl, hg1⟩
      replace hb := hb.later hg1
      replace hI1 := hI1.later hg1
      replace hg0 := Grows.trans hg0 hg1
      clear P0 P1 P2 P35 hg1 M0
      have P35 := hb.cell h35
      go_wp2_with fail
      go_loopw [24] (fun i wr => ∃ k : Nat, k ≤ N ∧ i = .int .i64 (k : Int) ∧ Grows w1 wr ∧ Hid (∀ j it, j < k → x.its[j]? = some it → sizeOk x.a x.c N j it.2)) (fun i _ => N - (intOf i).toNat)
      case atStart => exact ⟨0, Nat.zero_le _, rfl, Grows.refl _, fun j it h => by omega⟩
      case round =>
        obtain ⟨k, hk, rfl, hg, HIN⟩ := hrel
        by_cases hlt : k < N
        · obtain ⟨it, hit⟩ : ∃ it, x.its[k]? = some it := ⟨_, List.getElem?_eq_getElem (by rw [← HN.out]; exact hlt)⟩
          have hmem := List.mem_of_getElem? hit
          obtain ⟨ad, rfl, _, cx⟩ := hI1.at_ (by decide) (i := k) (r := icells it) (by rw [List.getElem?_map, hit]; rfl)
          obtain ⟨lx, hzr⟩ := hx.its it hmem
          have hic := icells_len lx
          have hio := icells_one it
          have hc32 := ic_size lx
          have ldk : (Instr.loadAt 61 (.pointer (some (ad.add (k * 33))))).run Tryd.prog wr = .ok (.agg (icells it).toArray) wr :=
            load_any wr _ _ (icells it) _ (fun j v hv => by rw [add_add_addr]; exact hcell_later (cx j v hv) hg) Tryd.underlying61 rfl (by rw [hic]; exact item_size)
          have hR := Has.new wr 61 [.int .u8 0, .int .u8 0, .int .u8 0, .int .u8 0, .int .u8 0, .int .u8 0, .int .u8 0, .int .u8 0, .int .u8 0, .int .u8 0, .int .u8 0, .int .u8 0, .int .u8 0, .int .u8 0, .int .u8 0, .int .u8 0, .int .u8 0, .int .u8 0, .int .u8 0, .int .u8 0, .int .u8 0, .int .u8 0, .int .u8 0, .int .u8 0, .int .u8 0, .int .u8 0, .int .u8 0, .int .u8 0, .int .u8 0, .int .u8 0, .int .u8 0, .int .u8 0, .int .i64 0]
          have hga := grows_alloc wr (.cells ([.int .u8 0, .int .u8 0, .int .u8 0, .int .u8 0, .int .u8 0, .int .u8 0, .int .u8 0, .int .u8 0, .int .u8 0, .int .u8 0, .int .u8 0, .int .u8 0, .int .u8 0, .int .u8 0, .int .u8 0, .int .u8 0, .int .u8 0, .int .u8 0, .int .u8 0, .int .u8 0, .int .u8 0, .int .u8 0, .int .u8 0, .int .u8 0, .int .u8 0, .int .u8 0, .int .u8 0, .int .u8 0, .int .u8 0, .int .u8 0, .int .u8 0, .int .u8 0, .int .i64 0] : List Value).toArray 61)
          have HIT := Lib.hid hit
          generalize icells it = ic at *
          obtain ⟨z, hzz⟩ : ∃ z, it.2 = z := ⟨_, rfl⟩
          rw [hzz] at hzr hc32
          unfold I64 at hzr
          have HZ := Lib.hid hzz
          have hki : (k : Int) < (N : Int) := by omega
          clear hit hmem cx lx hzz P35
          by_cases hlast : k + 1 = N
          · have q1 : ((k : Int) == (N : Int) - 1) = true := by simp; omega
            have HL := Lib.hid hlast
            clear hlast
            by_cases hs : z < 1
            · have q3 : decide (z < 1) = true := by simp [hs]
              have hM : R = false := by rw [HR.out]; exact mayI_false (fun h => by have := h.sizes k it HIT.out; rw [HZ.out, ← HN.out] at this; obtain ⟨u1, u2, u3⟩ := this; omega)
              have HM := Lib.hid hM
              clear hM
              go_wp2_with (first | (with_reducible refine wpList_loads rfl 61 (.tmp 27) rfl _ rfl _ ldk ?_) | (refine wpList_storev rfl 61 (.tmp 5) (.tmp 28) rfl wr.heap.size _ ic 33 rfl rfl hR rfl hic item_size hio ?_; intro w3 hbox3 hbel3; have hg3 : Grows wr w3 := hbel3 _ _ (Nat.le_refl _) hga; have Q := hbox3.cell hc32; have hb3 := hb.later (Grows.trans hg hg3); have Q0 := hb3.cell h0; have Q2 := hb3.cell h2))
              go_ret
              exact ⟨by rw [HM.out]; rfl, Grows.trans hg0 (Grows.trans hg hg3)⟩
            · have q3 : decide (z < 1) = false := by simp; omega
              by_cases ht : z > x.c
              · have q4 : decide (z > x.c) = true := by simp; omega
                have q5 : x.c < z := by omega
                have hM : R = false := by rw [HR.out]; exact mayI_false (fun h => by have := h.sizes k it HIT.out; rw [HZ.out, ← HN.out] at this; obtain ⟨u1, u2, u3⟩ := this; omega)
                have HM := Lib.hid hM
                clear hM
                go_wp2_with (first | (with_reducible refine wpList_loads rfl 61 (.tmp 27) rfl _ rfl _ ldk ?_) | (refine wpList_storev rfl 61 (.tmp 5) (.tmp 28) rfl wr.heap.size _ ic 33 rfl rfl hR rfl hic item_size hio ?_; intro w3 hbox3 hbel3; have hg3 : Grows wr w3 := hbel3 _ _ (Nat.le_refl _) hga; have Q := hbox3.cell hc32; have hb3 := hb.later (Grows.trans hg hg3); have Q0 := hb3.cell h0; have Q2 := hb3.cell h2))
                go_ret
                exact ⟨by rw [HM.out]; rfl, Grows.trans hg0 (Grows.trans hg hg3)⟩
              · have q4 : decide (z > x.c) = false := by simp; omega
                have q5 : ¬ x.c < z := by omega
                have q6 : z ≤ x.c := by omega
                have hok : Hid (sizeOk x.a x.c N k z) := by have hlst := HL.out; show _; refine ⟨?_, ?_, ?_⟩ <;> first | omega | (intro _; omega)
                go_wp2_with (first | (with_reducible refine wpList_loads rfl 61 (.tmp 27) rfl _ rfl _ ldk ?_) | (refine wpList_storev rfl 61 (.tmp 5) (.tmp 28) rfl wr.heap.size _ ic 33 rfl rfl hR rfl hic item_size hio ?_; intro w3 hbox3 hbel3; have hg3 : Grows wr w3 := hbel3 _ _ (Nat.le_refl _) hga; have Q := hbox3.cell hc32; have hb3 := hb.later (Grows.trans hg hg3); have Q0 := hb3.cell h0; have Q2 := hb3.cell h2))
                go_roundw
                case rel => exact ⟨k + 1, by omega, by go_num, Grows.trans hg hg3, inv_step (z := z) HIN.out HIT.out (by rw [HZ.out]; exact hok.out)⟩
                case measure => simp [intOf]; omega
          · have q1 : ((k : Int) == (N : Int) - 1) = false := by simp; omega
            have HL := Lib.hid hlast
            have q2 : ¬ (k : Int) = (N : Int) - 1 := by omega
            by_cases hs : z < x.a
            · have q3 : decide (z < x.a) = true := by simp [hs]
              have hM : R = false := by rw [HR.out]; exact mayI_false (fun h => by have := h.sizes k it HIT.out; rw [HZ.out, ← HN.out] at this; obtain ⟨u1, u2, u3⟩ := this; have := u3 (by omega); omega)
              have HM := Lib.hid hM
              clear hM
              go_wp2_with (first | (with_reducible refine wpList_loads rfl 61 (.tmp 27) rfl _ rfl _ ldk ?_) | (refine wpList_storev rfl 61 (.tmp 5) (.tmp 28) rfl wr.heap.size _ ic 33 rfl rfl hR rfl hic item_size hio ?_; intro w3 hbox3 hbel3; have hg3 : Grows wr w3 := hbel3 _ _ (Nat.le_refl _) hga; have Q := hbox3.cell hc32; have hb3 := hb.later (Grows.trans hg hg3); have Q0 := hb3.cell h0; have Q2 := hb3.cell h2))
              go_ret
              exact ⟨by rw [HM.out]; rfl, Grows.trans hg0 (Grows.trans hg hg3)⟩
            · have q3 : decide (z < x.a) = false := by simp; omega
              by_cases ht : z > x.c
              · have q4 : decide (z > x.c) = true := by simp; omega
                have q5 : x.c < z := by omega
                have hM : R = false := by rw [HR.out]; exact mayI_false (fun h => by have := h.sizes k it HIT.out; rw [HZ.out, ← HN.out] at this; obtain ⟨u1, u2, u3⟩ := this; omega)
                have HM := Lib.hid hM
                clear hM
                go_wp2_with (first | (with_reducible refine wpList_loads rfl 61 (.tmp 27) rfl _ rfl _ ldk ?_) | (refine wpList_storev rfl 61 (.tmp 5) (.tmp 28) rfl wr.heap.size _ ic 33 rfl rfl hR rfl hic item_size hio ?_; intro w3 hbox3 hbel3; have hg3 : Grows wr w3 := hbel3 _ _ (Nat.le_refl _) hga; have Q := hbox3.cell hc32; have hb3 := hb.later (Grows.trans hg hg3); have Q0 := hb3.cell h0; have Q2 := hb3.cell h2))
                go_ret
                exact ⟨by rw [HM.out]; rfl, Grows.trans hg0 (Grows.trans hg hg3)⟩
              · have q4 : decide (z > x.c) = false := by simp; omega
                have q5 : ¬ x.c < z := by omega
                have q6 : z ≤ x.c := by omega
                have hok : Hid (sizeOk x.a x.c N k z) := by have hlst := HL.out; show _; refine ⟨?_, ?_, ?_⟩ <;> first | omega | (intro _; omega)
                go_wp2_with (first | (with_reducible refine wpList_loads rfl 61 (.tmp 27) rfl _ rfl _ ldk ?_) | (refine wpList_storev rfl 61 (.tmp 5) (.tmp 28) rfl wr.heap.size _ ic 33 rfl rfl hR rfl hic item_size hio ?_; intro w3 hbox3 hbel3; have hg3 : Grows wr w3 := hbel3 _ _ (Nat.le_refl _) hga; have Q := hbox3.cell hc32; have hb3 := hb.later (Grows.trans hg hg3); have Q0 := hb3.cell h0; have Q2 := hb3.cell h2))
                go_roundw
                case rel => exact ⟨k + 1, by omega, by go_num, Grows.trans hg hg3, inv_step (z := z) HIN.out HIT.out (by rw [HZ.out]; exact hok.out)⟩
                case measure => simp [intOf]; omega
        · obtain rfl : k = N := by omega
          have d1 : decide ((k : Int) < (k : Int)) = false := by simp
          have hbr := hb.later hg
          have ldw : (Instr.loadAt 44 (.pointer (some ⟨w.heap.size, 0, none⟩))).run Tryd.prog wr = .ok (.agg vs.toArray) wr := hbr.load Tryd.underlying44 rfl (by rw [hvl]; exact ix_size)
          have hall : ∀ it ∈ x.its, 1 ≤ it.2 ∧ it.2 ≤ 4096 := fun it hi => by
            obtain ⟨j, hj⟩ := List.mem_iff_getElem?.1 hi
            have hjn := (List.getElem?_eq_some_iff.1 hj).1
            have := HIN.out j it (by rw [HN.out]; exact hjn) hj
            exact ⟨this.1, by have := this.2.1; omega⟩
          have TC := TT.out wr (hI1.later hg) (fun it hi => ⟨(hall it hi).1, by have := (hall it hi).2; omega⟩) (by rw [← HN.out]; omega)
          have HT : Hid (R = decide (total x.its ≤ 65536)) := by
            show _ = _
            rw [HR.out]
            by_cases ht : total x.its ≤ 65536
            · rw [mayI_true ⟨hz, by rw [← HN.out]; omega, fun i it hi => by rw [← HN.out]; exact HIN.out i it (by rw [HN.out]; exact (List.getElem?_eq_some_iff.1 hi).1) hi, ht⟩]; simp [ht]
            · rw [mayI_false (fun h => ht h.total)]; simp [ht]
          have hall := Lib.hid hall
          generalize total x.its = tt at *
          have TC := Lib.hid TC
          clear P35
          go_wp2_with (with_reducible refine wpList_loads rfl 44 (.tmp 1) rfl _ rfl _ ldw ?_)
          refine TC.out.mono ?_
          rintro e w9 ⟨rfl, hg9⟩
          go_wp2_with fail
          go_ret
          exact ⟨congrArg (fun q : Bool => Ending.returned (.bool q)) HT.out.symm, Grows.trans hg0 (Grows.trans hg hg9)⟩
  · have hzf : mayZ x.a x.b x.c = false := by simpa using hz
    rw [hzf] at M0
    have hM : R = false := by rw [HR.out]; exact mayI_false (fun h => hz h.prm)
    have HM := Lib.hid hM
    clear hM
    go_enter Tryd.func25, Tryd.ntmps25
    go_wp2_with fail
    change Calls _ _ _ (w.alloc (.cells vs.toArray 44)) _
    generalize w.alloc (.cells vs.toArray 44) = w0 at *
    refine (M0.out _).mono ?_
    rintro e w1 ⟨rfl, hg1⟩
    go_wp2_with fail
    go_ret
    exact ⟨by rw [HM.out]; rfl, Grows.trans hg0 hg1⟩
end Go.Proofs.YtnokloedbckijaaDoor
