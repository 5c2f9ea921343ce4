/-
  The walk of FrameOpens.
-/
import Derived.Test.YthnjbmaiebiehaaL6A
import Derived.Test.YthnjbmaiebiehaaFrF
import Derived.Test.YthnjbmaiebiehaaFrK
import Derived.Test.YthnjbmaiebiehaaFrI
import Derived.Test.YthnjbmaiebiehaaL5K
namespace Go.Proofs.Ythnjbmaiebiehaa
open Go.RowKit
set_option linter.unusedVariables false

theorem two_ints {w : World} {b : Nat} {a : Int} {m : Nat} (h : Has w b [.int .i64 a, .int .i64 (m : Int)]) (k : Nat) (hk : k < 2) : ∃ z : Int, w.cell? ⟨b, k, none⟩ = some (.int .i64 z) := by
  match k, hk with
  | 0, _ => exact ⟨a, h.cell rfl⟩
  | 1, _ => exact ⟨m, h.cell rfl⟩

set_option maxRecDepth 20000 in
set_option maxHeartbeats 8000000 in
theorem frameopens_walk (A : Option Addr) (n c : Nat) (bs : List UInt8) (A' : Option Addr) (n' c' : Nat) (zs : List Int) (at_ : Int) (x : UInt8) (most : Int) (w : World) (hl : bs.length = n) (hr : Lies w w.heap.size A (bs.map bv)) (hc : n ≤ c) (hm : c ≤ maxLen)
    (hl' : zs.length = n') (hr' : Lies w w.heap.size A' (zs.map zv)) (hc' : n' ≤ maxLen) (hz : ∀ z ∈ zs, -9223372036854775808 ≤ z ∧ z ≤ 9223372036854775807) (hat : -9223372036854775808 ≤ at_ ∧ at_ ≤ 9223372036854775807) (hmo : -9223372036854775808 ≤ most ∧ most ≤ 9223372036854775807) :
    Calls Try.prog 4 #[.slice A n c, .slice A' n' c', .int .i64 at_, bv x, .int .i64 most] w fun e w' => e = .returned (.bool true) ∧ Grows w w' := by
  obtain ⟨i0, hi0, hz0, hz1, hz2⟩ := info_parts byte_info
  go_enter Try.func4, Try.ntmps4
  go_wp2_with fail
  refine (made_any A' n' c' zs w hl' hr' hc' hz).mono ?_
  rintro e w1 ⟨l2, m2, c2, A2, HL2, hm2, rfl, hc2, hown2, hg1⟩
  have hL2 := Lies.of_own hown2
  clear hown2 hr' hl' hz
  go_wp2_with fail
  refine (rseal_out A2 m2 c2 l2 w1 HL2.out hL2 hc2 (by omega)).mono ?_
  rintro e w2 ⟨f, fn, c3, A3, HS, HFn, h10, hfn, rfl, hc3, hcm3, _, hL3, hg2⟩
  have hfn4 : fn ≤ 370 := by omega
  have hg02 := Grows.trans hg1 hg2
  have hrb := hr.later hg02
  clear hL2 hg1 hg2 hr HS hfn HL2 hm2 hc2
  go_wp2_with fail
  refine (around_any at_ fn w2 hat ⟨by omega, by omega⟩).mono ?_
  rintro e w' ⟨rfl, rfl⟩
  have hk := around_lt at_ (m := fn) (by omega)
  generalize around at_ fn = k at *
  have FEW : ∀ u : World, Lies u u.heap.size A3 (f.map bv) → Calls Try.prog 8 #[.slice A3 fn c3, .int .i64 400] u fun e w' => ∃ A' c', e = .returned (.slice A' fn c') ∧ fn ≤ c' ∧ w'.ownsRow u.heap.size 5 1 (.slice A' fn c') fn (f.map bv) ∧ Lies w' w'.heap.size A' (f.map bv) ∧ Below u.heap.size u w' := fun u hu => by
    have h := few_bytes A3 fn c3 400 f u HFn.out hu hc3 (by omega) hcm3
    rwa [show min fn 400 = fn by omega, List.take_of_length_le (by rw [HFn.out]; omega)] at h
  have FEW := Lib.hid FEW
  go_wp2_with fail
  refine (FEW.out w2 hL3).mono ?_
  rintro e w5 ⟨A5, c5, rfl, hc5, hown5, hL5, hg5⟩
  obtain ⟨g5, c5', e5, _, hm5, hgb5, hh5⟩ := own_has hown5 (by omega)
  injection e5 with e5a e5b e5c
  subst e5a e5c
  have hfr := hh5.free k
  obtain ⟨y, hy⟩ : ∃ y, f[k]? = some y := ⟨_, List.getElem?_eq_getElem (by rw [HFn.out]; exact hk)⟩
  have cx := hh5.cell (k := k) (u := bv y) (by rw [List.getElem?_map, hy]; rfl)
  have hset := hh5.set_ (k := k) (by rw [List.length_map, HFn.out]; exact hk) (bv x)
  rw [← List.map_set] at hset
  have HPS : Hid ((f.set k x).length = fn) := by show _ = _; rw [List.length_set]; exact HFn.out
  have hgs : Below w2.heap.size w2 (w5.setCell ⟨g5, k, none⟩ (bv x)) := Below.setCell hg5 (p := ⟨g5, k, none⟩) hgb5 _
  have HSET := Lib.hid hset
  have HGS := Lib.hid hgs
  clear hset hgs hh5 hy hown5 hL5 hgb5 hg5
  have k0 : (k : Int) < (fn : Int) := by omega
  go_wp2_with fail
  clear cx hfr
  generalize w5.setCell ⟨g5, k, none⟩ (bv x) = w6 at *
  have hLodd6 := HSET.out.lies
  have hL36 := hL3.later HGS.out
  have hg06 := Grows.trans hg02 HGS.out
  have hrb6 := hrb.later HGS.out
  clear HSET HGS hL3 hg02 hrb
  refine (FEW.out w6 hL36).mono ?_
  rintro e w7 ⟨A7, c7, rfl, hc7, hown7, _, hg7⟩
  have hnew := Lies.new w7 5 [bv x]
  have hs7 := hg7.size
  clear FEW
  go_wp2_with (at_builtin; refine wpList_append_src _ rfl (.tmp 40) (.tmp 42) _ rfl w6.heap.size 5 i0 _ 1 Try.underlying22 hi0 hz0 hz1 hz2 rfl _ fn _ rfl (hown7.alloc _) _ _ 1 1 [bv x] rfl rfl hnew (by simp [Value.oneCell']) (by unfold maxLen; omega) (by omega) (by rw [World.size_alloc]; omega) ?_; intro v8 w8 hown8 hg8 hat8)
  have hB8 : Below w6.heap.size w6 w8 := (Below.alloc hg7 (by omega) _).grown hg8 (by rw [World.size_alloc]; omega) (own_ge hown7)
  obtain ⟨A8, c8, rfl, hc8⟩ := own_form hown8
  have hL8 := Lies.of_own hown8
  rw [show [bv x] = [x].map bv from rfl, ← List.map_append] at hL8
  have HL8 : Hid ((f ++ [x]).length = fn + 1) := by show _ = _; rw [List.length_append, HFn.out]; rfl
  have hL38 := hL36.later hB8
  have hLodd8 := hLodd6.later hB8
  have hrb8 := hrb6.later hB8
  have hg08 := Grows.trans hg06 hB8
  clear hown7 hown8 hg8 hat8 hg7 hnew hs7 hB8 hL36 hLodd6 hrb6 hg06
  refine wp_region_ord 10 [(0, true), (2, true), (3, true), (4, true), (5, true), (6, true), (7, true), (1, false), (8, false), (9, true)] (by kernel_rfl) (by kernel_rfl) ?_
  have hgd : Grows w8 w8.drew := (Grows.refl w8).drew
  have hL3d := hL38.later hgd
  have hLod := hLodd8.later hgd
  have hL8d := hL8.later hgd
  have hrbd := hrb8.later hgd
  have hg0d := Grows.trans hg08 hgd
  have hO := Grows.refl w8.drew
  have hct := fun u => cut_to (P := Try.prog) Try.underlying22 byte_one A3 fn c3 .i64 (k : Int) k rfl (by omega) u
  clear hL38 hLodd8 hL8 hrb8 hg08 hgd
  generalize w8.drew = wd at *
  repeat (first | (refine ord_cut hO _ ?_ (by simp only [List.getElem?_cons_succ, List.getElem?_cons_zero]; rfl) (by rfl) 22 (.tmp 48) none (some (.tmp 49)) none (by rfl) ?_ ?_; rotate_left; (· (exact hct)); try simp only [Act.put, List.setIfInBounds_toArray, List.set_cons_zero, List.set_cons_succ]) | (refine ord_take hO _ ?_ (by simp only [List.getElem?_cons_succ, List.getElem?_cons_zero]; rfl) (by rfl) ?_ ?_; rotate_left; (· (intro u hu0 hu; (try go_simp); (try with_reducible rfl))); try simp only [Act.put, List.setIfInBounds_toArray, List.set_cons_zero, List.set_cons_succ]) | (refine ord_skip _ (by simp only [List.getElem?_cons_succ, List.getElem?_cons_zero]; rfl) (by rfl) ?_; try simp only [Act.put, List.setIfInBounds_toArray, List.set_cons_zero, List.set_cons_succ]))
  (refine ord_move _ (by simp only [List.getElem?_cons_succ, List.getElem?_cons_zero]; rfl) (by rfl) (fun u hu K hK => ?_); go_simp)
  refine (few_bytes A n c 60 bs u hl (hrbd.later hu) hc (by omega) hm).mono ?_
  rintro e w9 ⟨A9, c9, rfl, hc9, _, hL9, hg9⟩
  refine hK.out _ _ hg9 ?_
  clear hK K
  have HL9 : Hid ((bs.take 60).length = min n 60) := by show _ = _; rw [List.length_take, hl, Nat.min_comm]
  have hn9 : min n 60 ≤ 400 := by omega
  have hgu := Grows.trans hu hg9
  have hL3d := hL3d.later hgu
  have hLod := hLod.later hgu
  have hL8d := hL8d.later hgu
  have hg0d := Grows.trans hg0d hgu
  have hO := Grows.refl w9
  clear hu hg9 hgu hrbd hl
  generalize min n 60 = n9 at *
  generalize bs.take 60 = l9 at *
  repeat (first | (refine ord_cut hO _ ?_ (by simp only [List.getElem?_cons_succ, List.getElem?_cons_zero]; rfl) (by rfl) 22 (.tmp 48) none (some (.tmp 49)) none (by rfl) ?_ ?_; rotate_left; (· (exact hct)); try simp only [Act.put, List.setIfInBounds_toArray, List.set_cons_zero, List.set_cons_succ]) | (refine ord_take hO _ ?_ (by simp only [List.getElem?_cons_succ, List.getElem?_cons_zero]; rfl) (by rfl) ?_ ?_; rotate_left; (· (intro u hu0 hu; (try go_simp); (try with_reducible rfl))); try simp only [Act.put, List.setIfInBounds_toArray, List.set_cons_zero, List.set_cons_succ]) | (refine ord_skip _ (by simp only [List.getElem?_cons_succ, List.getElem?_cons_zero]; rfl) (by rfl) ?_; try simp only [Act.put, List.setIfInBounds_toArray, List.set_cons_zero, List.set_cons_succ]))
  clear hO
  (refine ord_move _ (by simp only [List.getElem?_cons_succ, List.getElem?_cons_zero]; rfl) (by rfl) (fun u hu K hK => ?_); go_simp)
  refine hK.out _ _ (grows_alloc _ _) ?_
  clear hK K
  have hbx := Has.new u 22 [.slice A9 n9 c9, .slice A3 fn c3, .slice (some ⟨g5, 0, none⟩) fn c5, .slice A3 k c3, .slice A8 (fn + 1) c8]
  have hga := grows_alloc u (.cells #[.slice A9 n9 c9, .slice A3 fn c3, .slice (some ⟨g5, 0, none⟩) fn c5, .slice A3 k c3, .slice A8 (fn + 1) c8] 22)
  have hgx := Grows.trans hu hga
  have HKL : Hid ((f.take k).length = k) := by show _ = _; rw [List.length_take, HFn.out]; omega
  have hLkx : Lies (u.alloc (.cells #[.slice A9 n9 c9, .slice A3 fn c3, .slice (some ⟨g5, 0, none⟩) fn c5, .slice A3 k c3, .slice A8 (fn + 1) c8] 22)) (u.alloc (.cells #[.slice A9 n9 c9, .slice A3 fn c3, .slice (some ⟨g5, 0, none⟩) fn c5, .slice A3 k c3, .slice A8 (fn + 1) c8] 22)).heap.size A3 ((f.take k).map bv) := by rw [List.map_take]; exact (hL3d.later hgx).take k
  have hR : Rows_ (u.alloc (.cells #[.slice A9 n9 c9, .slice A3 fn c3, .slice (some ⟨g5, 0, none⟩) fn c5, .slice A3 k c3, .slice A8 (fn + 1) c8] 22)) u.heap.size 5 := fun r hr => by
    match r, hr with
    | 0, _ => exact ⟨A9, n9, c9, l9, hbx.cell rfl, HL9.out, hL9.later hgx, hc9, hn9⟩
    | 1, _ => exact ⟨A3, fn, c3, f, hbx.cell rfl, HFn.out, hL3d.later hgx, hc3, by omega⟩
    | 2, _ => exact ⟨some ⟨g5, 0, none⟩, fn, c5, f.set k x, hbx.cell rfl, HPS.out, hLod.later hgx, hc5, by omega⟩
    | 3, _ => exact ⟨A3, k, c3, f.take k, hbx.cell rfl, HKL.out, hLkx, by omega, by omega⟩
    | 4, _ => exact ⟨A8, fn + 1, c8, f ++ [x], hbx.cell rfl, HL8.out, hL8d.later hgx, hc8, by omega⟩
  have hg0x := Grows.trans hg0d hgx
  clear hbx hga hgx hLkx hL9 hL3d hLod hL8d hg0d hu
  generalize u.alloc (.cells #[.slice A9 n9 c9, .slice A3 fn c3, .slice (some ⟨g5, 0, none⟩) fn c5, .slice A3 k c3, .slice A8 (fn + 1) c8] 22) = wa at *
  generalize u.heap.size = g at *
  have hO := Grows.refl wa
  repeat (first | (refine ord_take hO _ ?_ (by simp only [List.getElem?_cons_succ, List.getElem?_cons_zero]; rfl) (by rfl) ?_ ?_; rotate_left; (· (intro u hu0 hu; (try go_simp); (try with_reducible rfl))); try simp only [Act.put, List.setIfInBounds_toArray, List.set_cons_zero, List.set_cons_succ]) | (refine ord_skip _ (by simp only [List.getElem?_cons_succ, List.getElem?_cons_zero]; rfl) (by rfl) ?_; try simp only [Act.put, List.setIfInBounds_toArray, List.set_cons_zero, List.set_cons_succ]))
  clear hO
  (refine ord_done (fun u hu => ?_); simp only [List.drop_succ_cons, List.drop_zero])
  have hR := hR.later hu
  have hg0u := Grows.trans hg0x hu
  clear hu hg0x
  generalize hwu : u = w8' at *
  clear hwu
  refine NoPanic.normal ?_
  go_wp2_with fail
  refine (around_any most 321 w8' hmo ⟨by omega, by omega⟩).mono ?_
  rintro e w' ⟨rfl, rfl⟩
  have hm1 := around_lt most (m := 321) (by omega)
  generalize around most 321 = m1 at *
  have hbox := Has.new w8' 3 [.int .i64 most, .int .i64 (m1 : Int)]
  have hga := grows_alloc w8' (.cells #[.int .i64 most, .int .i64 (m1 : Int)] 3)
  have hR9 := hR.later hga
  have hg09 := Grows.trans hg0u hga
  go_wp2_with fail
  change Code.wp _ _ _ _ (w8'.alloc (.cells #[.int .i64 most, .int .i64 (m1 : Int)] 3))
  clear hR hg0u hga
  generalize w8'.alloc (.cells #[.int .i64 most, .int .i64 (m1 : Int)] 3) = w9 at *
  generalize w8'.heap.size = b9 at *
  go_loopw [17, 18, 19, 20, 21, 22, 23, 24, 25] (fun q _ _ _ _ _ _ _ _ wr => ∃ i : Nat, i ≤ 5 ∧ q = iv i ∧ Grows w9 wr) (fun q _ _ _ _ _ _ _ _ _ => 5 - (intOf q).toNat)
  case atStart => exact ⟨0, by omega, rfl, Grows.refl _⟩
  case round =>
    obtain ⟨i, hi, rfl, hgr⟩ := hrel
    by_cases hiN : i < 5
    · obtain ⟨Ak, nk, ck, lk, hcell, hlk, hLk, hck, hmk⟩ := hR9.later hgr i hiN
      have HLk := Lib.hid hlk
      clear hlk
      have hiN' : (i : Int) < 5 := by omega
      have hb9 := hbox.later hgr
      go_wp2_with fail
      go_loopw [18, 19, 20, 21, 22] (fun q _ _ _ _ wv => ∃ k : Nat, k ≤ 2 ∧ q = iv k ∧ Grows wr wv) (fun q _ _ _ _ _ => 2 - (intOf q).toNat)
      case atStart => exact ⟨0, by omega, rfl, Grows.refl _⟩
      case round =>
        obtain ⟨k, hk, rfl, hgv⟩ := hrel
        by_cases hk3 : k < 2
        · have hk3' : (k : Int) < 2 := by omega
          obtain ⟨mk, hcm⟩ := two_ints (hb9.later hgv) k hk3
          have hcv := hcell_later hcell hgv
          have hLv := hLk.later hgv
          have UN : ∀ u : World, Lies u u.heap.size Ak (lk.map bv) → Calls Try.prog 11 #[.slice Ak nk ck, .int .i64 mk] u fun e w' => ∃ (l : List UInt8) (er ln c' : Nat) (A' : Option Addr), Hid (openOf lk mk = (l, er)) ∧ Hid (l.length = ln) ∧ e = .returned (.tuple #[.slice A' ln c', iv er]) ∧ ln ≤ c' ∧ Lies w' w'.heap.size A' (l.map bv) ∧ Grows u w' := fun u hu => open_any Ak nk ck lk mk u HLk.out hu hck (by omega)
          have RU : ∀ u : World, Lies u u.heap.size Ak (lk.map bv) → Calls Try.prog 17 #[.slice Ak nk ck, .int .i64 mk] u fun e w' => RO lk mk u e w' := fun u hu => ropen_any Ak nk ck lk mk u HLk.out hu hck (by omega)
          have UN := Lib.hid UN
          have RU := Lib.hid RU
          go_wp2_with fail
          refine wp_region_ord 14 [(0, true), (1, true), (2, true), (3, true), (4, true), (5, true), (6, true), (7, true), (8, false), (9, true), (10, true), (11, true), (12, true), (13, true)] (by kernel_rfl) (by kernel_rfl) ?_
          have hgd : Grows wr wr.drew := (Grows.refl wr).drew
          have hLd := hLv.later hgd
          have hcd := hcell_later hcv hgd
          have hmd := hcell_later hcm hgd
          have hgvd := Grows.trans hgv hgd
          have hO := Grows.refl wr.drew
          clear hLv hcv hcm hgv hgd
          generalize wr.drew = wd at *
          have ld1 : ∀ u, Grows wd u → u.cell? ⟨g, i, none⟩ = some (.slice Ak nk ck) := fun u h => hcell_later hcd h
          have ld2 : ∀ u, Grows wd u → u.cell? ⟨b9, k, none⟩ = some (.int .i64 mk) := fun u h => hcell_later hmd h
          repeat (first | (refine ord_take hO _ ?_ (by simp only [List.getElem?_cons_succ, List.getElem?_cons_zero]; rfl) (by rfl) ?_ ?_; rotate_left; (· (intro u hu0 hu; (try go_simp); (try with_reducible rfl))); try simp only [Act.put, List.setIfInBounds_toArray, List.set_cons_zero, List.set_cons_succ]) | (refine ord_skip _ (by simp only [List.getElem?_cons_succ, List.getElem?_cons_zero]; rfl) (by rfl) ?_; try simp only [Act.put, List.setIfInBounds_toArray, List.set_cons_zero, List.set_cons_succ]))
          (refine ord_move _ (by simp only [List.getElem?_cons_succ, List.getElem?_cons_zero]; rfl) (by rfl) (fun u hu K hK => ?_); go_simp)
          refine (UN.out u (hLd.later hu)).mono ?_
          rintro e w10 ⟨l, er, ln, c10, A10, HU, HLn, rfl, hc10, hL10, hg10⟩
          refine hK.out _ _ hg10 ?_
          clear hK K
          have hgu := Grows.trans hu hg10
          have hLd := hLd.later hgu
          have hcd := hcell_later hcd hgu
          have hmd := hcell_later hmd hgu
          have hgvd := Grows.trans hgvd hgu
          have hO := Grows.refl w10
          clear ld1 ld2 hu hgu hg10
          repeat (first | (refine ord_take hO _ ?_ (by simp only [List.getElem?_cons_succ, List.getElem?_cons_zero]; rfl) (by rfl) ?_ ?_; rotate_left; (· (intro u hu0 hu; (try go_simp); (try with_reducible rfl))); try simp only [Act.put, List.setIfInBounds_toArray, List.set_cons_zero, List.set_cons_succ]) | (refine ord_skip _ (by simp only [List.getElem?_cons_succ, List.getElem?_cons_zero]; rfl) (by rfl) ?_; try simp only [Act.put, List.setIfInBounds_toArray, List.set_cons_zero, List.set_cons_succ]))
          (refine ord_done (fun u hu => ?_); simp only [List.drop_succ_cons, List.drop_zero])
          have hLd := hLd.later hu
          have hcd := hcell_later hcd hu
          have hmd := hcell_later hmd hu
          have hgvd := Grows.trans hgvd hu
          have hL10 := hL10.later hu
          clear hu hO
          generalize hwu : u = w11 at *
          clear hwu
          refine NoPanic.normal ?_
          go_wp2_with fail
          refine wp_region_ord 14 [(0, true), (1, true), (2, true), (3, true), (4, true), (5, true), (6, true), (7, true), (8, false), (9, true), (10, true), (11, true), (12, true), (13, true)] (by kernel_rfl) (by kernel_rfl) ?_
          have hgd : Grows w11 w11.drew := (Grows.refl w11).drew
          have hLd := hLd.later hgd
          have hcd := hcell_later hcd hgd
          have hmd := hcell_later hmd hgd
          have hL10 := hL10.later hgd
          have hgvd := Grows.trans hgvd hgd
          have hO := Grows.refl w11.drew
          clear hgd
          generalize w11.drew = wd2 at *
          have ld1 : ∀ u, Grows wd2 u → u.cell? ⟨g, i, none⟩ = some (.slice Ak nk ck) := fun u h => hcell_later hcd h
          have ld2 : ∀ u, Grows wd2 u → u.cell? ⟨b9, k, none⟩ = some (.int .i64 mk) := fun u h => hcell_later hmd h
          repeat (first | (refine ord_take hO _ ?_ (by simp only [List.getElem?_cons_succ, List.getElem?_cons_zero]; rfl) (by rfl) ?_ ?_; rotate_left; (· (intro u hu0 hu; (try go_simp); (try with_reducible rfl))); try simp only [Act.put, List.setIfInBounds_toArray, List.set_cons_zero, List.set_cons_succ]) | (refine ord_skip _ (by simp only [List.getElem?_cons_succ, List.getElem?_cons_zero]; rfl) (by rfl) ?_; try simp only [Act.put, List.setIfInBounds_toArray, List.set_cons_zero, List.set_cons_succ]))
          (refine ord_move _ (by simp only [List.getElem?_cons_succ, List.getElem?_cons_zero]; rfl) (by rfl) (fun u hu K hK => ?_); go_simp)
          refine (RU.out u (hLd.later hu)).mono ?_
          rintro e w12 ⟨l2', er2, ln2, c12, A12, HU2, HLn2, rfl, hL12, hg12⟩
          obtain ⟨rfl, rfl⟩ : l = l2' ∧ er = er2 := by have := HU.out.symm.trans HU2.out; simpa using this
          refine hK.out _ _ hg12 ?_
          clear hK K
          have hgu := Grows.trans hu hg12
          have hL10 := hL10.later hgu
          have hgvd := Grows.trans hgvd hgu
          have hO := Grows.refl w12
          clear ld1 ld2 hu hgu hg12
          repeat (first | (refine ord_take hO _ ?_ (by simp only [List.getElem?_cons_succ, List.getElem?_cons_zero]; rfl) (by rfl) ?_ ?_; rotate_left; (· (intro u hu0 hu; (try go_simp); (try with_reducible rfl))); try simp only [Act.put, List.setIfInBounds_toArray, List.set_cons_zero, List.set_cons_succ]) | (refine ord_skip _ (by simp only [List.getElem?_cons_succ, List.getElem?_cons_zero]; rfl) (by rfl) ?_; try simp only [Act.put, List.setIfInBounds_toArray, List.set_cons_zero, List.set_cons_succ]))
          (refine ord_done (fun u hu => ?_); simp only [List.drop_succ_cons, List.drop_zero])
          have hL10 := hL10.later hu
          have hL12 := hL12.later hu
          have hgvd := Grows.trans hgvd hu
          clear hu hO
          generalize hwu : u = w13 at *
          clear hwu
          have cv1 := run_string_of (P := Try.prog) w13 22 5 Try.underlying22 Try.underlying5 9 Try.underlying9 _ A10 ln c10 l HLn.out hL10
          have cv2 := run_string_of (P := Try.prog) w13 22 5 Try.underlying22 Try.underlying5 9 Try.underlying9 _ A12 ln2 c12 l HLn2.out hL12
          refine NoPanic.normal ?_
          go_wp2_with fail
          go_roundw
          case rel => exact ⟨k + 1, by omega, by go_num, hgvd⟩
          case measure => simp [intOf]; omega
        · have hk3' : ¬ ((k : Int) < 2) := by omega
          have hLv := hLk.later hgv
          have hcv := hcell_later hcell hgv
          have LE := length_any Ak nk ck lk wr HLk.out hLv hck (by omega)
          have RL : ∀ u, Grows wr u → Calls Try.prog 18 #[.slice Ak nk ck] u fun e w' => e = .returned (.int .i64 (rlenInt lk)) ∧ Grows u w' := fun u hu => rlength_any Ak nk ck lk u HLk.out (hLv.later hu) hck (by omega)
          cases hF : formB lk with
          | true =>
            rw [show lenVal lk = .tuple #[iv (toldN lk), .int .i64 0] by unfold lenVal; rw [if_pos hF]] at LE
            simp only [rlen_some hF] at RL
            have LE := Lib.hid LE
            have RL := Lib.hid RL
            clear hF
            generalize toldN lk = y at *
            have hd1 : decide (0 ≤ (y : Int)) = true := by simp
            have hd2 : decide ((y : Int) < 0) = false := by simp
            go_wp2_with fail
            refine LE.out.mono ?_
            rintro e w5' ⟨rfl, hg5'⟩
            have hc5' := hcell_later hcv hg5'
            go_wp2_with fail
            refine (RL.out w5' hg5').mono ?_
            rintro e w6' ⟨rfl, hg6'⟩
            go_wp2_with fail
            go_roundw
            case rel => exact ⟨i + 1, by omega, by go_num, Grows.trans hgr (Grows.trans hgv (Grows.trans hg5' hg6'))⟩
            case measure => simp [intOf]; omega
          | false =>
            rw [show lenVal lk = .tuple #[.int .i64 0, .int .i64 2] by unfold lenVal; rw [if_neg (by rw [hF]; exact Bool.noConfusion)]] at LE
            simp only [rlen_none hF] at RL
            have LE := Lib.hid LE
            have RL := Lib.hid RL
            clear hF
            go_wp2_with fail
            refine LE.out.mono ?_
            rintro e w5' ⟨rfl, hg5'⟩
            have hc5' := hcell_later hcv hg5'
            go_wp2_with fail
            refine (RL.out w5' hg5').mono ?_
            rintro e w6' ⟨rfl, hg6'⟩
            go_wp2_with fail
            go_roundw
            case rel => exact ⟨i + 1, by omega, by go_num, Grows.trans hgr (Grows.trans hgv (Grows.trans hg5' hg6'))⟩
            case measure => simp [intOf]; omega
    · have hiN' : ¬ ((i : Int) < 5) := by omega
      go_wp2_with fail
      refine (lives6_any _).mono ?_
      rintro e w99 ⟨rfl, hg99⟩
      go_wp2_with fail
      go_ret
      exact ⟨rfl, Grows.trans hg09 (Grows.trans hgr hg99)⟩
end Go.Proofs.Ythnjbmaiebiehaa
