/-
  The walk of IndexGreat: how great an image may be, and how many items there may be, is told as the document says.
-/
import Derived.Test.YtnokloedbckijaaDoorJ5
import Derived.Test.YtnokloedbckijaaDoorJ1
import Derived.Test.YtnokloedbckijaaDoorJ3
import Derived.BigGuard
namespace Go.Proofs.YtnokloedbckijaaDoor
open Go.RowKit
set_option linter.unusedVariables false
set_option maxRecDepth 20000

def p4096 : Prm := ⟨4096, 4096, 4096⟩
theorem p4096_ok : p4096.Ok := ⟨by decide, by decide, by decide, by decide⟩
def p111 : Prm := ⟨1, 1, 1⟩
theorem p111_ok : p111.Ok := ⟨by decide, by decide, by decide, by decide⟩
theorem reps_bv (n : Nat) : List.replicate n (Value.int .u8 0) = (List.replicate n (0 : UInt8)).map bv := by
  rw [List.map_replicate]; rfl

set_option maxHeartbeats 8000000 in
theorem great_walk (n : Int) (w : World) (hs : Starts w) (hk : Keys w) (hn : I64 n) :
    Calls Tryd.prog 5 #[.int .i64 n] w fun e w' => e = .returned (.bool true) ∧ Grows w w' := by
  have AR := Lib.hid (fun u => around_any n 12 u hn (by decide))
  have hlt := around_lt n (m := 12) (by decide)
  have LV := Lib.hid (fun u (h : Grows w u) => lives11_any u (hs.later h) (hk.later h))
  have OA := Lib.hid (fun (k : Nat) (A : Option Addr) (u : World) (h : Grows w u) (hk1 : k ≤ 1000000) (hr : Lies u u.heap.size A ((List.replicate k (0 : UInt8)).map bv)) => of_great p4096 p4096_ok A k k (List.replicate k 0) u (List.length_replicate ..) (Nat.le_refl _) hr (hs.later h) (hk.later h) hk1)
  have OB := Lib.hid (fun (k : Nat) (A : Option Addr) (u : World) (h : Grows w u) (hk1 : k ≤ 1000000) (hr : Lies u u.heap.size A ((List.replicate k (0 : UInt8)).map bv)) => of_great p111 p111_ok A k k (List.replicate k 0) u (List.length_replicate ..) (Nat.le_refl _) hr (hs.later h) (hk.later h) hk1)
  have LA : Hid (∀ k, (itemsOf p4096 (List.replicate k (0 : UInt8))).length = (k + 4095) / 4096) := fun k => by rw [items_len, chunks_even (m := 4096) rfl rfl (by decide) p4096_ok, List.length_replicate, show k + 4096 - 1 = k + 4095 by omega]
  have LB : Hid (∀ k, (itemsOf p111 (List.replicate k (0 : UInt8))).length = k) := fun k => by rw [items_len, chunks_even (m := 1) rfl rfl (by decide) p111_ok, List.length_replicate]; simp
  have hpa : pv p4096 = .agg #[.int .i64 4096, .int .i64 4096, .int .i64 4096] := rfl
  have hpb : pv p111 = .agg #[.int .i64 1, .int .i64 1, .int .i64 1] := rfl
  rw [hpa] at OA
  rw [hpb] at OB
  obtain ⟨i0, hi0, hz0, hz1, hz2⟩ := info_parts byte_info
  generalize around n 12 = r at *
  have w1 : IntKind.i64.wrap (65530 + (r : Int)) = 65530 + (r : Int) := IntWalk.i64_in _ (by omega)
  have w2 : IntKind.i64.wrap (4090 + (r : Int)) = 4090 + (r : Int) := IntWalk.i64_in _ (by omega)
  clear hpa hpb
  go_enter Tryd.func5, Tryd.ntmps5
  go_wp2_with fail
  refine (AR.out _).mono ?_
  rintro e w' ⟨rfl, rfl⟩
  go_wp2_with fail
  refine (AR.out _).mono ?_
  rintro e w' ⟨rfl, rfl⟩
  obtain ⟨a, ha⟩ : ∃ a : Nat, 65530 + r = a := ⟨_, rfl⟩
  obtain ⟨b, hb⟩ : ∃ b : Nat, 4090 + r = b := ⟨_, rfl⟩
  have ha1 : 65530 + (r : Int) = (a : Int) := by omega
  have hb1 : 4090 + (r : Int) = (b : Int) := by omega
  rw [ha1] at w1 ⊢
  rw [hb1] at w2
  have hab : a ≤ 65541 := by omega
  have hbb : b ≤ 4101 := by omega
  have HA1 := Lib.hid ha1
  have HB1 := Lib.hid hb1
  have hb2 : IntKind.i64.wrap (4090 + (r : Int)) = (b : Int) := by rw [hb1]; exact w2
  clear ha hb ha1 hb1
  go_wp2_with (first
    | (at_make; refine wpList_make_room _ rfl _ _ _ rfl w.heap.size 5 i0 _ Tryd.underlying22 hi0 hz0 hz1 rfl .i64 .i64 _ _ a a rfl rfl rfl rfl (Nat.le_refl _) (by rw [hz2]; omega) (by unfold maxLen; omega) (Nat.le_refl _) ?_; intro w3 hown3 hg3 hsz3))
  have hL3 := Lies.of_own hown3
  rw [reps_bv] at hL3
  clear hown3 hsz3
  refine (OA.out a _ w3 hg3 (by omega) hL3).mono ?_
  rintro e w4 ⟨vs, er, N, rfl, hg4, hvl, hv1, ⟨Ax, cx, hv35⟩, hcase⟩
  have gw4 := Grows.trans hg3 hg4
  have hX4 := Has.new w4 44 zcells
  have hga4 := grows_alloc w4 (.cells zcells.toArray 44)
  rw [LA.out] at hcase
  have hs4 : w.heap.size ≤ w4.heap.size := gw4.size
  clear OA hL3
  go_wp2_with (first
    | (refine wpList_storeT rfl 44 (.tmp 5) (.tmp 20) rfl w4.heap.size zcells vs 36 rfl rfl hX4 zcells_len hvl ix_size hv1 ?_; intro w5 hbox5 ht5; have hg5 : Grows w4 w5 := turns_grow hga4 ht5 (Nat.le_refl _); have gw5 := Grows.trans gw4 hg5)
    | (at_make; refine wpList_make_room _ rfl _ _ _ rfl w5.heap.size 5 i0 _ Tryd.underlying22 hi0 hz0 hz1 rfl .i64 .i64 _ _ b b rfl rfl rfl rfl (Nat.le_refl _) (by rw [hz2]; omega) (by unfold maxLen; omega) (Nat.le_refl _) ?_; intro w6 hown6 hg6 hsz6))
  have hL6 := Lies.of_own hown6
  rw [reps_bv] at hL6
  have gw6 := Grows.trans gw5 hg6
  clear hown6 hsz6
  refine (OB.out b _ w6 gw6 (by omega) hL6).mono ?_
  rintro e w7 ⟨vs2, er2, N2, rfl, hg7, hvl2, hv12, ⟨Ax2, cx2, hv352⟩, hcase2⟩
  have gw7 := Grows.trans gw6 hg7
  have hX7 := Has.new w7 44 zcells
  have hga7 := grows_alloc w7 (.cells zcells.toArray 44)
  rw [LB.out] at hcase2
  have hbox7 := hbox5.later (Grows.trans hg6 hg7)
  have g47 : Grows w4 w7 := Grows.trans hg5 (Grows.trans hg6 hg7)
  clear OB hL6 hX4 hga4 hbox5 ht5
  rcases hcase with ⟨rfl, h1, h2, hN, TT⟩ | ⟨rfl, h1, rfl⟩ <;> rcases hcase2 with ⟨rfl, h3, h4, hN2, TT2⟩ | ⟨rfl, h3, rfl⟩
  · have hbl := hbox7.lt
    have e1 : decide ((a : Int) ≤ 65536) = true := by simp; omega
    have e1' : (a : Int) ≤ 65536 := by omega
    have hwa : IntKind.i64.wrap ((a : Int) + 4095) = (a : Int) + 4095 := IntWalk.i64_in _ (by omega)
    have hq : Int.tdiv ((a : Int) + 4095) 4096 = (N : Int) := by rw [hN, Int.tdiv_eq_ediv_of_nonneg (by omega)]; omega
    have hq2 : ((a : Int) + 4095) / 4096 = (N : Int) := by rw [hN]; omega
    have TT := Lib.hid TT
    clear h1 h2 hN
    subst hN2
    have e2 : decide ((N2 : Int) ≤ 4096) = true := by simp; omega
    have e2' : (N2 : Int) ≤ 4096 := by omega
    clear TT2 h3 h4
    go_wp2_with (first | (refine wpList_storeT rfl 44 (.tmp 7) (.tmp 27) rfl w7.heap.size zcells vs2 36 rfl rfl hX7 zcells_len hvl2 ix_size hv12 ?_; intro w8 hbox8 ht8; have hx8 := (hbox7.later hga7).turned ht8 (by omega); have P35 := hx8.cell hv35; have P35b := hbox8.cell hv352; have ldw := hx8.load Tryd.underlying44 rfl (by rw [hvl]; exact ix_size); have g78 : Grows w7 w8 := turns_grow hga7 ht8 (Nat.le_refl _)) | (with_reducible refine wpList_loadg rfl 44 (.tmp 5) rfl _ rfl _ ldw ?_))
    with_reducible refine (TT.out _ (Grows.trans g47 g78)).mono ?_
    rintro e w9 ⟨rfl, hg9⟩
    have Q35 := hcell_later P35 hg9
    have Q35b := hcell_later P35b hg9
    have gw9 := Grows.trans (Grows.trans gw7 g78) hg9
    go_wp2_with fail
    with_reducible refine (LV.out w9 gw9).mono ?_
    rintro e w10 ⟨rfl, hg10⟩
    go_wp2_with fail
    go_ret
    exact ⟨rfl, Grows.trans gw9 hg10⟩
  · have hbl := hbox7.lt
    have e1 : decide ((a : Int) ≤ 65536) = true := by simp; omega
    have e1' : (a : Int) ≤ 65536 := by omega
    have hwa : IntKind.i64.wrap ((a : Int) + 4095) = (a : Int) + 4095 := IntWalk.i64_in _ (by omega)
    have hq : Int.tdiv ((a : Int) + 4095) 4096 = (N : Int) := by rw [hN, Int.tdiv_eq_ediv_of_nonneg (by omega)]; omega
    have hq2 : ((a : Int) + 4095) / 4096 = (N : Int) := by rw [hN]; omega
    have TT := Lib.hid TT
    clear h1 h2 hN
    have h3' : ¬ b ≤ 4096 := fun h => h3 ⟨by omega, h⟩
    have e2 : decide ((b : Int) ≤ 4096) = false := by simp; omega
    have e2' : (4096 : Int) < (b : Int) := by omega
    clear h3 h3'
    go_wp2_with (first | (refine wpList_storeT rfl 44 (.tmp 7) (.tmp 27) rfl w7.heap.size zcells vs2 36 rfl rfl hX7 zcells_len hvl2 ix_size hv12 ?_; intro w8 hbox8 ht8; have hx8 := (hbox7.later hga7).turned ht8 (by omega); have P35 := hx8.cell hv35; have P35b := hbox8.cell hv352; have ldw := hx8.load Tryd.underlying44 rfl (by rw [hvl]; exact ix_size); have g78 : Grows w7 w8 := turns_grow hga7 ht8 (Nat.le_refl _)) | (with_reducible refine wpList_loadg rfl 44 (.tmp 5) rfl _ rfl _ ldw ?_))
    with_reducible refine (TT.out _ (Grows.trans g47 g78)).mono ?_
    rintro e w9 ⟨rfl, hg9⟩
    have Q35 := hcell_later P35 hg9
    have Q35b := hcell_later P35b hg9
    have gw9 := Grows.trans (Grows.trans gw7 g78) hg9
    go_wp2_with fail
    with_reducible refine (LV.out w9 gw9).mono ?_
    rintro e w10 ⟨rfl, hg10⟩
    go_wp2_with fail
    go_ret
    exact ⟨rfl, Grows.trans gw9 hg10⟩
  · have hbl := hbox7.lt
    have h1' : ¬ a ≤ 65536 := fun h => h1 ⟨h, by omega⟩
    have e1 : decide ((a : Int) ≤ 65536) = false := by simp; omega
    have e1' : (65536 : Int) < (a : Int) := by omega
    clear h1 h1'
    subst hN2
    have e2 : decide ((N2 : Int) ≤ 4096) = true := by simp; omega
    have e2' : (N2 : Int) ≤ 4096 := by omega
    clear TT2 h3 h4
    go_wp2_with (first | go_big_skip | (refine wpList_storeT rfl 44 (.tmp 7) (.tmp 27) rfl w7.heap.size zcells vs2 36 rfl rfl hX7 zcells_len hvl2 ix_size hv12 ?_; intro w8 hbox8 ht8; have hx8 := (hbox7.later hga7).turned ht8 (by omega); have P35 := hx8.cell hv35; have P35b := hbox8.cell hv352; have ldw := hx8.load Tryd.underlying44 rfl (by rw [hvl]; exact ix_size); have g78 : Grows w7 w8 := turns_grow hga7 ht8 (Nat.le_refl _)))
    with_reducible refine (LV.out w8 (Grows.trans gw7 g78)).mono ?_
    rintro e w10 ⟨rfl, hg10⟩
    go_wp2_with fail
    go_ret
    exact ⟨rfl, Grows.trans (Grows.trans gw7 g78) hg10⟩
  · have hbl := hbox7.lt
    have h1' : ¬ a ≤ 65536 := fun h => h1 ⟨h, by omega⟩
    have e1 : decide ((a : Int) ≤ 65536) = false := by simp; omega
    have e1' : (65536 : Int) < (a : Int) := by omega
    clear h1 h1'
    have h3' : ¬ b ≤ 4096 := fun h => h3 ⟨by omega, h⟩
    have e2 : decide ((b : Int) ≤ 4096) = false := by simp; omega
    have e2' : (4096 : Int) < (b : Int) := by omega
    clear h3 h3'
    go_wp2_with (first | go_big_skip | (refine wpList_storeT rfl 44 (.tmp 7) (.tmp 27) rfl w7.heap.size zcells vs2 36 rfl rfl hX7 zcells_len hvl2 ix_size hv12 ?_; intro w8 hbox8 ht8; have hx8 := (hbox7.later hga7).turned ht8 (by omega); have P35 := hx8.cell hv35; have P35b := hbox8.cell hv352; have ldw := hx8.load Tryd.underlying44 rfl (by rw [hvl]; exact ix_size); have g78 : Grows w7 w8 := turns_grow hga7 ht8 (Nat.le_refl _)))
    with_reducible refine (LV.out w8 (Grows.trans gw7 g78)).mono ?_
    rintro e w10 ⟨rfl, hg10⟩
    go_wp2_with fail
    go_ret
    exact ⟨rfl, Grows.trans (Grows.trans gw7 g78) hg10⟩
end Go.Proofs.YtnokloedbckijaaDoor
