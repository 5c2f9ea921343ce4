/-
  The law's same; the reference's SameInts; lives.
-/
import Derived.Test.YtkgkkobdpgnicaaDoorCutH
import Derived.Lib.SlBytesConst
namespace Go.Proofs.YtkgkkobdpgnicaaDoor
open Go.RowKit
set_option linter.unusedVariables false

set_option maxRecDepth 20000 in
set_option maxHeartbeats 1000000 in
theorem same_eq (va vb : Value) (l : List (List UInt8)) (w : World) (ha : Pcl w va l) (hb : Pcl w vb l) (hn : l.length ≤ 1000000) :
    Calls Tryd.prog 24 #[va, vb] w fun e w' => e = .returned (.bool true) ∧ Grows w w' := by
  obtain ⟨A, c, es, rfl, hc, hL, hE⟩ := ha
  obtain ⟨B, d, fs, rfl, hd, hM, hF⟩ := hb
  have HN := Lib.hid (show l.length = l.length from rfl)
  obtain ⟨n, hnn⟩ : ∃ n, n = l.length := ⟨_, rfl⟩
  rw [← hnn] at hn hc hd ⊢
  have HNN := Lib.hid hnn
  clear hnn HN
  go_enter Tryd.func24, Tryd.ntmps24
  go_wp2
  go_loopw [5] (fun i wr => ∃ k : Nat, k ≤ n ∧ i = .int .i64 (k : Int) ∧ Grows w wr) (fun i _ => n - (intOf i).toNat)
  case atStart => exact ⟨0, Nat.zero_le _, rfl, Grows.refl _⟩
  case round =>
    obtain ⟨k, hk, rfl, hg⟩ := hrel
    by_cases hlt : k < n
    · obtain ⟨x, hx⟩ : ∃ x, l[k]? = some x := ⟨_, List.getElem?_eq_getElem (by rw [← HNN.out]; exact hlt)⟩
      obtain ⟨Ax, cx, e1, hxc, hLx⟩ := hE.2 k x hx
      obtain ⟨Ay, cy, e2, hyc, hLy⟩ := hF.2 k x hx
      obtain ⟨ad, rfl, _, c1⟩ := hL.at_ e1
      obtain ⟨ad2, rfl, _, c2⟩ := hM.at_ e2
      have hki : (k : Int) < (n : Int) := by omega
      have f1 : ∀ u, Grows wr.drew u → u.cell? (ad.add k) = some (.slice Ax x.length cx) := fun u h => hcell_later c1 (Grows.trans hg (Grows.trans (Grows.refl wr).drew h))
      have f2 : ∀ u, Grows wr.drew u → u.cell? (ad2.add k) = some (.slice Ay x.length cy) := fun u h => hcell_later c2 (Grows.trans hg (Grows.trans (Grows.refl wr).drew h))
      have v1 : ∀ u, Grows wr.drew u → (convert 35 9 (.slice Ax x.length cx)).run Tryd.prog u = .ok (.string ⟨x.toArray⟩) u := fun u h =>
        run_string_of u 35 5 Tryd.underlying35 Tryd.underlying5 9 Tryd.underlying9 _ Ax x.length cx x rfl ((hLx.lies fun _ h => h).later (Grows.trans hg (Grows.trans (Grows.refl wr).drew h)))
      have v2 : ∀ u, Grows wr.drew u → (convert 35 9 (.slice Ay x.length cy)).run Tryd.prog u = .ok (.string ⟨x.toArray⟩) u := fun u h =>
        run_string_of u 35 5 Tryd.underlying35 Tryd.underlying5 9 Tryd.underlying9 _ Ay x.length cy x rfl ((hLy.lies fun _ h => h).later (Grows.trans hg (Grows.trans (Grows.refl wr).drew h)))
      have hO := Grows.refl wr.drew
      go_wp2_with fail
      refine wp_region_ord 11 [(0, true), (1, true), (2, true), (3, true), (4, true), (5, true), (6, true), (7, true), (8, true), (9, true), (10, true)] (by kernel_rfl) (by kernel_rfl) ?_
      repeat (first | (refine ord_take hO _ ?_ (by simp only [List.getElem?_cons_succ, List.getElem?_cons_zero]; rfl) (by rfl) ?_ ?_; rotate_left; (· (intro u hu0 hu; (try go_simp); (try with_reducible rfl))); try simp only [Act.put, List.setIfInBounds_toArray, List.set_cons_zero, List.set_cons_succ]) | (refine ord_skip _ (by simp only [List.getElem?_cons_succ, List.getElem?_cons_zero]; rfl) (by rfl) ?_; try simp only [Act.put, List.setIfInBounds_toArray, List.set_cons_zero, List.set_cons_succ]))
      refine ord_done (fun w4 hu => ?_); simp only [List.drop_succ_cons, List.drop_zero]
      have hg4 := Grows.trans hg (Grows.trans (Grows.refl wr).drew hu)
      clear f1 f2 v1 v2 hO hu
      go_wp2_with fail
      refine NoPanic.normal ?_
      go_wp2_with fail
      go_roundw
      case rel => exact ⟨k + 1, by omega, by go_num, hg4⟩
      case measure => simp [intOf]; omega
    · have hkn : k = n := by omega
      subst hkn
      have d1 : decide ((k : Int) < (k : Int)) = false := by simp
      go_wp2_with fail
      go_ret
      exact ⟨rfl, hg⟩

set_option maxRecDepth 20000 in
set_option maxHeartbeats 1000000 in
theorem sameints_eq (A B : Option Addr) (n c d : Nat) (l : List Int) (w : World) (hl : l.length = n) (hL : Lies w w.heap.size A (l.map fun x => .int .i64 x)) (hM : Lies w w.heap.size B (l.map fun x => .int .i64 x)) (hn : n ≤ 1000000) :
    Calls Tryd.prog 32 #[.slice A n c, .slice B n d] w fun e w' => e = .returned (.bool true) ∧ Grows w w' := by
  have HL := Lib.hid hl
  clear hl
  go_enter Tryd.func32, Tryd.ntmps32
  go_wp2
  go_loopw [5] (fun i wr => ∃ k : Nat, k ≤ n ∧ i = .int .i64 (k : Int) ∧ Grows w wr) (fun i _ => n - (intOf i).toNat)
  case atStart => exact ⟨0, Nat.zero_le _, rfl, Grows.refl _⟩
  case round =>
    obtain ⟨k, hk, rfl, hg⟩ := hrel
    by_cases hlt : k < n
    · obtain ⟨x, hx⟩ : ∃ x, l[k]? = some x := ⟨_, List.getElem?_eq_getElem (by rw [HL.out]; exact hlt)⟩
      obtain ⟨ad, rfl, _, c1⟩ := hL.at_ (j := k) (u := .int .i64 x) (by rw [List.getElem?_map, hx]; rfl)
      obtain ⟨ad2, rfl, _, c2⟩ := hM.at_ (j := k) (u := .int .i64 x) (by rw [List.getElem?_map, hx]; rfl)
      have hki : (k : Int) < (n : Int) := by omega
      have f1 : ∀ u, Grows wr.drew u → u.cell? (ad.add k) = some (.int .i64 x) := fun u h => hcell_later c1 (Grows.trans hg (Grows.trans (Grows.refl wr).drew h))
      have f2 : ∀ u, Grows wr.drew u → u.cell? (ad2.add k) = some (.int .i64 x) := fun u h => hcell_later c2 (Grows.trans hg (Grows.trans (Grows.refl wr).drew h))
      have hO := Grows.refl wr.drew
      go_wp2_with fail
      refine wp_region_ord 9 [(0, true), (1, true), (2, true), (3, true), (4, true), (5, true), (6, true), (7, true), (8, true)] (by kernel_rfl) (by kernel_rfl) ?_
      repeat (first | (refine ord_take hO _ ?_ (by simp only [List.getElem?_cons_succ, List.getElem?_cons_zero]; rfl) (by rfl) ?_ ?_; rotate_left; (· (intro u hu0 hu; (try go_simp); (try with_reducible rfl))); try simp only [Act.put, List.setIfInBounds_toArray, List.set_cons_zero, List.set_cons_succ]) | (refine ord_skip _ (by simp only [List.getElem?_cons_succ, List.getElem?_cons_zero]; rfl) (by rfl) ?_; try simp only [Act.put, List.setIfInBounds_toArray, List.set_cons_zero, List.set_cons_succ]))
      refine ord_done (fun w4 hu => ?_); simp only [List.drop_succ_cons, List.drop_zero]
      have hg4 := Grows.trans hg (Grows.trans (Grows.refl wr).drew hu)
      clear f1 f2 hO hu
      go_wp2_with fail
      refine NoPanic.normal ?_
      go_wp2_with fail
      go_roundw
      case rel => exact ⟨k + 1, by omega, by go_num, hg4⟩
      case measure => simp [intOf]; omega
    · have hkn : k = n := by omega
      subst hkn
      have d1 : decide ((k : Int) < (k : Int)) = false := by simp
      go_wp2_with fail
      go_ret
      exact ⟨rfl, hg⟩

def p222 : Prm := ⟨2, 2, 2⟩
theorem p222_ok : p222.Ok := ⟨by decide, by decide, by decide, by decide⟩
theorem chunks222 : (chunksOf p222 [97, 98, 99, 100, 101]).map List.length = [2, 2, 1] := by decide +kernel
theorem abcde_marked (w : World) : Lies (w.alloc (.cells (([97, 98, 99, 100, 101] : List UInt8).map bv).toArray 5 (5, 6))) (w.heap.size + 1) (some ⟨w.heap.size, 0, none⟩) (([97, 98, 99, 100, 101] : List UInt8).map bv) ∧
    Grows w (w.alloc (.cells (([97, 98, 99, 100, 101] : List UInt8).map bv).toArray 5 (5, 6))) := ⟨fun j u hu => ⟨_, rfl, by show w.heap.size < w.heap.size + 1; omega, by
    rw [add_plain, Nat.zero_add]
    have : (w.alloc (.cells (([97, 98, 99, 100, 101] : List UInt8).map bv).toArray 5 (5, 6))).heap[w.heap.size]? = some (.cells (([97, 98, 99, 100, 101] : List UInt8).map bv).toArray 5 (5, 6)) := World.alloc_heap_new w _
    unfold World.cell?
    rw [this]
    simpa using hu⟩, (Grows.refl w).alloc (Nat.le_refl _) _⟩
set_option maxRecDepth 20000 in
theorem lives10_any (w : World) (hs : Starts w) :
    Calls Tryd.prog 19 #[] w fun e w' => e = .returned (.bool true) ∧ Grows w w' := by
  obtain ⟨h0, g0⟩ := abcde_marked w
  have hs0 : (w.alloc (.cells (([97, 98, 99, 100, 101] : List UInt8).map bv).toArray 5 (5, 6))).heap.size = w.heap.size + 1 := by simp
  have SZ := Lib.hid (sizes_any p222 p222_ok (some ⟨w.heap.size, 0, none⟩) 5 5 [97, 98, 99, 100, 101] _ rfl (Nat.le_refl _) (h0.mono (by rw [hs0]; exact Nat.le_refl _)) (hs.later g0) (by decide))
  have hpv : pv p222 = .agg #[.int .i64 2, .int .i64 2, .int .i64 2] := rfl
  rw [hpv] at SZ
  have hcl : (chunksOf p222 [97, 98, 99, 100, 101]).length = 3 := by have := congrArg List.length chunks222; simpa using this
  have hcm : (chunksOf p222 [97, 98, 99, 100, 101]).map lenV = [2, 2, 1].map fun x => .int .i64 x := by
    have := congrArg (List.map fun n : Nat => (Value.int .i64 (n : Int))) chunks222
    rw [List.map_map] at this
    exact this
  rw [hcl, hcm] at SZ
  have hcv := Lib.run_convert_bytes_const (P := Tryd.prog) w 35 5 #[.int .u8 97, .int .u8 98, .int .u8 99, .int .u8 100, .int .u8 101] 5 5 Tryd.underlying35 Tryd.underlying5
  go_enter Tryd.func19, Tryd.ntmps19
  go_wp2_with fail
  clear hcv
  refine SZ.out.mono ?_
  rintro e w1 ⟨v, rfl, hown, hg1⟩
  obtain ⟨A, c, rfl, hc⟩ := own_form hown
  have hL := Lies.of_own hown
  have g1 := grows_alloc w1 (.cells ([2, 2, 1].map fun x => Value.int .i64 x).toArray 3)
  have hM := (Lies.new w1 3 ([2, 2, 1].map fun x => Value.int .i64 x)).mono (B' := (w1.alloc (.cells ([2, 2, 1].map fun x => Value.int .i64 x).toArray 3)).heap.size) (by simp)
  have SI := Lib.hid (sameints_eq A (some ⟨w1.heap.size, 0, none⟩) 3 c 3 [2, 2, 1] _ rfl (hL.later g1) hM (by decide))
  have hgg := Grows.trans g0 (Grows.trans hg1 g1)
  clear SZ
  go_wp2_with fail
  refine SI.out.mono ?_
  rintro e w2 ⟨rfl, hg2⟩
  have hg3 := Grows.trans hgg hg2
  go_wp2_with fail
  go_ret
  exact ⟨rfl, hg3⟩
end Go.Proofs.YtkgkkobdpgnicaaDoor
