/-
  The walk of LzUnpacks.
-/
import Derived.Test.YtilpeekdjifjhaaL5H
import Derived.Test.YtilpeekdjifjhaaL5J
import Derived.Test.YtilpeekdjifjhaaL5C
import Derived.Test.YtilpeekdjifjhaaOrd2
namespace Go.Proofs.Ytilpeekdjifjhaa
open Go.RowKit
set_option linter.unusedVariables false

/-- At block g lie k slices of bytes, each of at most four hundred. -/
def Rows_ (w : World) (g k : Nat) : Prop := ∀ r, r < k → ∃ (A : Option Addr) (n c : Nat) (l : List UInt8), w.cell? ⟨g, r, none⟩ = some (.slice A n c) ∧ l.length = n ∧ Lies w w.heap.size A (l.map bv) ∧ n ≤ c ∧ n ≤ 400
theorem Rows_.later {w w' : World} {g k : Nat} (h : Rows_ w g k) (hg : Grows w w') : Rows_ w' g k := fun r hr => by
  obtain ⟨A, n, c, l, hc, hl, hL, h1, h2⟩ := h r hr
  exact ⟨A, n, c, l, hcell_later hc hg, hl, hL.later hg, h1, h2⟩
theorem three_ints {w : World} {b : Nat} {a : Int} {m : Nat} (h : Has w b [.int .i64 a, .int .i64 (m : Int), .int .i64 4000]) (ha : -9223372036854775808 ≤ a ∧ a ≤ 9223372036854775807) (hm : m ≤ 1000) (k : Nat) (hk : k < 3) :
    ∃ z : Int, (-9223372036854775808 ≤ z ∧ z ≤ 9223372036854775807) ∧ w.cell? ⟨b, k, none⟩ = some (.int .i64 z) := by
  match k, hk with
  | 0, _ => exact ⟨a, ha, h.cell rfl⟩
  | 1, _ => exact ⟨m, by omega, h.cell rfl⟩
  | 2, _ => exact ⟨4000, by omega, h.cell rfl⟩
theorem Lies.keepBut {w w' : World} {B b : Nat} {A : Option Addr} {vs : List Value} (h : Lies w B A vs) (hg : w.grownBy w' (some b)) (hB : B ≤ w.heap.size) (hne : ∀ ad, A = some ad → ad.block < B → ad.block ≠ b) : Lies w' w'.heap.size A vs := fun j u hu => by
  obtain ⟨ad, e, hlt, hc⟩ := h j u hu
  refine ⟨ad, e, Nat.lt_of_lt_of_le hlt (Nat.le_trans hB hg.size), (World.cell?_of_block (hg.block _ (by rw [add_block]; omega) (fun e' => ?_))).trans hc⟩
  rw [add_block] at e'
  injection e' with e'
  exact hne ad e hlt e'
theorem row_info : (Try.prog.info? 22).map (fun i => (i.zero, i.size, i.bytes)) = some (some (.slice none 0 0), 1, 24) := by kernel_rfl

set_option maxRecDepth 20000 in
set_option maxHeartbeats 8000000 in
theorem lzunpacks_walk (A : Option Addr) (n c : Nat) (bs : List UInt8) (A' : Option Addr) (n' c' : Nat) (zs : List Int) (at_ : Int) (x : UInt8) (most : Int) (w : World) (hl : bs.length = n) (hr : Lies w w.heap.size A (bs.map bv)) (hc : n ≤ c) (hm : c ≤ maxLen)
    (hl' : zs.length = n') (hr' : Lies w w.heap.size A' (zs.map zv)) (hc' : n' ≤ maxLen) (hz : ∀ z ∈ zs, -9223372036854775808 ≤ z ∧ z ≤ 9223372036854775807) (hat : -9223372036854775808 ≤ at_ ∧ at_ ≤ 9223372036854775807) (hmo : -9223372036854775808 ≤ most ∧ most ≤ 9223372036854775807) :
    Calls Try.prog 5 #[.slice A n c, .slice A' n' c', .int .i64 at_, bv x, .int .i64 most] w fun e w' => e = .returned (.bool true) ∧ Grows w w' := by
  obtain ⟨i0, hi0, hz0, hz1, hz2⟩ := info_parts row_info
  go_enter Try.func5, Try.ntmps5
  go_wp2_with fail
  refine (made_any A' n' c' zs w hl' hr' hc' hz).mono ?_
  rintro e w1 ⟨l2, m2, c2, A2, HL2, hm2, rfl, hc2, hown2, hg1⟩
  have hL2 := Lies.of_own hown2
  clear hown2 hr' hl' hz
  go_wp2_with fail
  refine (rpack_out A2 m2 c2 l2 w1 HL2.out hL2 hc2 (by omega)).mono ?_
  rintro e w2 ⟨p, pn, c3, A3, HP, HPN, hpn, rfl, hc3, hcm3, hL3, hg2⟩
  have hpn4 : pn ≤ 400 := by omega
  have hg02 := Grows.trans hg1 hg2
  have hrb := hr.later hg02
  clear hL2 hg1 hg2 hr HP hpn
  go_wp2_with fail
  refine (few_bytes A n c 60 bs w2 hl hrb hc (by omega) hm).mono ?_
  rintro e w3 ⟨A1, c1, rfl, hc1, hown1, hL1, hg3⟩
  have HL1 : Hid ((bs.take 60).length = min n 60) := by show _ = _; rw [List.length_take, hl, Nat.min_comm]
  have hn1 : min n 60 ≤ 400 := by omega
  have hL33 := hL3.later hg3
  have hg03 := Grows.trans hg02 hg3
  clear hown1 hrb hl hL3 hg02 hg3
  generalize min n 60 = n1 at *
  generalize bs.take 60 = l1 at *
  have hbx := Has.new w3 22 [.slice A1 n1 c1, .slice A3 pn c3]
  have hga := grows_alloc w3 (.cells #[.slice A1 n1 c1, .slice A3 pn c3] 22)
  have hg04 := Grows.trans hg03 hga
  have hL14 := hL1.later hga
  have hL34 := hL33.later hga
  by_cases hp0 : 0 < pn
  · have hp0' : (0 : Int) < (pn : Int) := by omega
    go_wp2_with fail
    change Calls _ _ _ (w3.alloc (.cells #[.slice A1 n1 c1, .slice A3 pn c3] 22)) _
    have hrow : (w3.alloc (.cells #[.slice A1 n1 c1, .slice A3 pn c3] 22)).ownsRow w3.heap.size 22 1 (.slice (some ⟨w3.heap.size, 0, none⟩) 2 2) 2 [.slice A1 n1 c1, .slice A3 pn c3] :=
      ⟨rfl, .inr ⟨w3.heap.size, 2, #[.slice A1 n1 c1, .slice A3 pn c3], rfl, Nat.le_refl _, heap_alloc_new w3 _, by omega, by unfold maxLen; omega, rfl, rfl⟩⟩
    have hsw : w3.heap.size < (w3.alloc (.cells #[.slice A1 n1 c1, .slice A3 pn c3] 22)).heap.size := by rw [World.size_alloc]; omega
    generalize w3.alloc (.cells #[.slice A1 n1 c1, .slice A3 pn c3] 22) = w4 at *
    refine (around_any at_ pn w4 hat ⟨by omega, by omega⟩).mono ?_
    rintro e w' ⟨rfl, rfl⟩
    have hk := around_lt at_ (m := pn) (by omega)
    generalize around at_ pn = k at *
    have HMN : Hid (min pn 400 = pn) := by show _ = _; omega
    have HTP : Hid (p.take 400 = p) := List.take_of_length_le (by rw [HPN.out]; exact hpn4)
    have hfew := few_bytes A3 pn c3 400 p w4 HPN.out hL34 hc3 (by omega) hcm3
    rw [HMN.out, HTP.out] at hfew
    have HFEW := Lib.hid hfew
    clear hfew HMN HTP
    go_wp2_with fail
    refine HFEW.out.mono ?_
    rintro e w5 ⟨A5, c5, rfl, hc5, hown5, hL5, hg5⟩
    obtain ⟨g5, c5', e5, _, hm5, hgb5, hh5⟩ := own_has hown5 (by omega)
    injection e5 with e5a e5b e5c
    subst e5a e5c
    have hfr := hh5.free k
    obtain ⟨y, hy⟩ : ∃ y, p[k]? = some y := ⟨_, List.getElem?_eq_getElem (by rw [HPN.out]; exact hk)⟩
    have cx := hh5.cell (k := k) (u := bv y) (by rw [List.getElem?_map, hy]; rfl)
    have hset := hh5.set_ (k := k) (by rw [List.length_map, HPN.out]; exact hk) (bv x)
    rw [← List.map_set] at hset
    have HPS : Hid ((p.set k x).length = pn) := by show _ = _; rw [List.length_set]; exact HPN.out
    have hgs : Below w4.heap.size w4 (w5.setCell ⟨g5, k, none⟩ (bv x)) := Below.setCell hg5 (p := ⟨g5, k, none⟩) hgb5 _
    have HSET := Lib.hid hset
    have HGS := Lib.hid hgs
    have hg5b : w3.heap.size < g5 := by omega
    clear hset hgs hh5 hy hown5 hL5 hgb5 hg5 HFEW
    have k0 : (k : Int) < (pn : Int) := by omega
    have hct := fun u => cut_to (P := Try.prog) Try.underlying22 byte_one A3 pn c3 .i64 (k : Int) k rfl (by omega) u
    have HCT := Lib.hid hct
    clear hct
    have hsl := HSET.out.lt
    have hrow6 := own_later hrow HGS.out
    have hnew : Lies ((w5.setCell ⟨g5, k, none⟩ (bv x)).alloc (.cells #[.slice A3 k c3, .slice (some ⟨g5, 0, none⟩) pn c5] 22)) _ _ [.slice A3 k c3, .slice (some ⟨g5, 0, none⟩) pn c5] := Lies.new (w5.setCell ⟨g5, k, none⟩ (bv x)) 22 [.slice A3 k c3, .slice (some ⟨g5, 0, none⟩) pn c5]
    rw [World.size_setCell] at hnew
    have hwb6 : w3.heap.size ≤ w5.heap.size := by have := HGS.out.size; rw [World.size_setCell] at this; omega
    go_wp2_with (first
      | (with_reducible refine wpList_cut rfl 22 (.tmp 45) none (some (.tmp 46)) none rfl _ (HCT.out _) ?_)
      | (at_builtin; refine wpList_append_src _ rfl (.tmp 44) (.tmp 49) _ rfl w3.heap.size 22 i0 _ 24 (by kernel_rfl) hi0 hz0 hz1 hz2 rfl _ 2 _ rfl (hrow6.alloc _) _ _ 2 2 [.slice A3 k c3, .slice (some ⟨g5, 0, none⟩) pn c5] rfl rfl hnew (by simp [Value.oneCell']) (by unfold maxLen; omega) (by omega) (by rw [World.size_alloc, World.size_setCell]; omega) ?_; intro v8 w8 hown8 hg8 hat8))
    rw [show 2 + 2 = 4 from rfl] at hown8
    obtain ⟨g, c8, rfl, hc8, hm8, hgb8, hh8⟩ := own_has hown8 (by omega)
    have hB38 : Below w3.heap.size w3 w8 := ((Below.alloc (B := w3.heap.size) (Below.trans (B := w3.heap.size) hga (Below.mono HGS.out (Nat.le_of_lt hsw))) (by rw [World.size_setCell]; exact hwb6) _)).grown hg8 (by rw [World.size_alloc, World.size_setCell]; omega) (own_ge hrow)
    have hLodd := ((HSET.out.lies).later (grows_alloc _ (.cells #[.slice A3 k c3, .slice (some ⟨g5, 0, none⟩) pn c5] 22))).keepBut (b := w3.heap.size) hg8 (Nat.le_refl _) (fun ad e _ => by injection e with e; subst e; have := hg5b; simp only []; omega)
    have hg08 : Grows w w8 := Grows.trans hg03 hB38
    have hL18 := (hL1.below hB38).mono hB38.size
    have hL38 := (hL33.below hB38).mono hB38.size
    have HKL : Hid ((p.take k).length = k) := by show _ = _; rw [List.length_take, HPN.out]; omega
    have hLk8 : Lies w8 w8.heap.size A3 ((p.take k).map bv) := by rw [List.map_take]; exact hL38.take k
    have hR : Rows_ w8 g 4 := fun r hr => by
      match r, hr with
      | 0, _ => exact ⟨A1, n1, c1, l1, hh8.cell rfl, HL1.out, hL18, hc1, hn1⟩
      | 1, _ => exact ⟨A3, pn, c3, p, hh8.cell rfl, HPN.out, hL38, hc3, hpn4⟩
      | 2, _ => exact ⟨A3, k, c3, p.take k, hh8.cell rfl, HKL.out, hLk8, by omega, by omega⟩
      | 3, _ => exact ⟨some ⟨g5, 0, none⟩, pn, c5, p.set k x, hh8.cell rfl, HPS.out, hLodd, hc5, hpn4⟩
    clear hown8 hg8 hat8 hh8 hgb8 hm8 hB38 hLodd hL18 hL38 hLk8 hrow hrow6 hnew HSET HGS HCT hbx hL14 hL34 hL1 hL33 hg03 hg04 hga cx hfr
    refine (around_any most 321 w8 hmo ⟨by omega, by omega⟩).mono ?_
    rintro e w' ⟨rfl, rfl⟩
    have hm1 := around_lt most (m := 321) (by omega)
    generalize around most 321 = m1 at *
    have hbox := Has.new w8 3 [.int .i64 most, .int .i64 (m1 : Int), .int .i64 4000]
    have hga := grows_alloc w8 (.cells #[.int .i64 most, .int .i64 (m1 : Int), .int .i64 4000] 3)
    have hR9 := hR.later hga
    have hg09 := Grows.trans hg08 hga
    go_wp2_with fail
    change Code.wp _ _ _ _ (w8.alloc (.cells #[.int .i64 most, .int .i64 (m1 : Int), .int .i64 4000] 3))
    clear hR hg08 hga
    generalize w8.alloc (.cells #[.int .i64 most, .int .i64 (m1 : Int), .int .i64 4000] 3) = w9 at *
    generalize w8.heap.size = b9 at *
    go_loopw [16, 17, 18, 19, 20, 21, 22, 23] (fun q _ _ _ _ _ _ _ wr => ∃ i : Nat, i ≤ 4 ∧ q = iv i ∧ Grows w9 wr) (fun q _ _ _ _ _ _ _ _ => 4 - (intOf q).toNat)
    case atStart => exact ⟨0, by omega, rfl, Grows.refl _⟩
    case round =>
      obtain ⟨i, hi, rfl, hgr⟩ := hrel
      by_cases hiN : i < 4
      · obtain ⟨Ak, nk, ck, lk, hcell, hlk, hLk, hck, hmk⟩ := hR9.later hgr i hiN
        have HLk := Lib.hid hlk
        clear hlk
        have hiN' : (i : Int) < 4 := by omega
        have hb9 := hbox.later hgr
        go_wp2_with fail
        go_loopw [17, 18, 19, 20] (fun q _ _ _ wv => ∃ k : Nat, k ≤ 3 ∧ q = iv k ∧ Grows wr wv) (fun q _ _ _ _ => 3 - (intOf q).toNat)
        case atStart => exact ⟨0, by omega, rfl, Grows.refl _⟩
        case round =>
          obtain ⟨k, hk, rfl, hgv⟩ := hrel
          by_cases hk3 : k < 3
          · have hk3' : (k : Int) < 3 := by omega
            obtain ⟨mk, hmk1, hcm⟩ := three_ints (hb9.later hgv) hmo (by omega) k hk3
            have hcv := hcell_later hcell hgv
            have hLv := hLk.later hgv
            have UN : ∀ u : World, Lies u u.heap.size Ak (lk.map bv) → Calls Try.prog 15 #[.slice Ak nk ck, .int .i64 mk] u fun e w' => ∃ (l : List UInt8) (er ln c' : Nat) (A' : Option Addr), Hid (unpackOf lk mk = (l, er)) ∧ Hid (l.length = ln) ∧ e = .returned (.tuple #[.slice A' ln c', iv er]) ∧ ln ≤ c' ∧ Lies w' w'.heap.size A' (l.map bv) ∧ Grows u w' := fun u hu => unpack_out Ak nk ck lk mk u HLk.out hu hck (by omega) hmk1
            have RU : ∀ u : World, Lies u u.heap.size Ak (lk.map bv) → Calls Try.prog 18 #[.slice Ak nk ck, .int .i64 mk] u fun e w' => UOut lk mk u e w' := fun u hu => runpack_any Ak nk ck lk mk u HLk.out hu hck (by omega)
            have UN := Lib.hid UN
            have RU := Lib.hid RU
            go_wp2_with fail
            refine wp_region_ord 14 [(0, true), (1, true), (2, true), (3, true), (4, true), (5, true), (6, true), (7, true), (8, false), (9, true), (10, true), (11, true), (12, true), (13, true)] (by kernel_rfl) (by kernel_rfl) ?_
            have hgd : Grows wr wr.drew := (Grows.refl wr).drew
            have hLd := hLv.later hgd
            have hcd := hcell_later hcv hgd
            have hmd := hcell_later hcm hgd
            have hgvd := Grows.trans hgv hgd
            have hO := Grows.refl wr.drew
            clear hLv hcv hcm hgv hgd
            generalize wr.drew = wd at *
            have ld1 : ∀ u, Grows wd u → u.cell? ⟨g, i, none⟩ = some (.slice Ak nk ck) := fun u h => hcell_later hcd h
            have ld2 : ∀ u, Grows wd u → u.cell? ⟨b9, k, none⟩ = some (.int .i64 mk) := fun u h => hcell_later hmd h
            repeat (first | (refine ord_take hO _ ?_ (by simp only [List.getElem?_cons_succ, List.getElem?_cons_zero]; rfl) (by rfl) ?_ ?_; rotate_left; (· (intro u hu0 hu; (try go_simp); (try with_reducible rfl))); try simp only [Act.put, List.setIfInBounds_toArray, List.set_cons_zero, List.set_cons_succ]) | (refine ord_skip _ (by simp only [List.getElem?_cons_succ, List.getElem?_cons_zero]; rfl) (by rfl) ?_; try simp only [Act.put, List.setIfInBounds_toArray, List.set_cons_zero, List.set_cons_succ]))
            (refine ord_move _ (by simp only [List.getElem?_cons_succ, List.getElem?_cons_zero]; rfl) (by rfl) (fun u hu K hK => ?_); go_simp)
            refine (UN.out u (hLd.later hu)).mono ?_
            rintro e w10 ⟨l, er, ln, c10, A10, HU, HLn, rfl, hc10, hL10, hg10⟩
            refine hK.out _ _ hg10 ?_
            clear hK K
            have hgu := Grows.trans hu hg10
            have hLd := hLd.later hgu
            have hcd := hcell_later hcd hgu
            have hmd := hcell_later hmd hgu
            have hgvd := Grows.trans hgvd hgu
            have hO := Grows.refl w10
            clear ld1 ld2 hu hgu hg10
            repeat (first | (refine ord_take hO _ ?_ (by simp only [List.getElem?_cons_succ, List.getElem?_cons_zero]; rfl) (by rfl) ?_ ?_; rotate_left; (· (intro u hu0 hu; (try go_simp); (try with_reducible rfl))); try simp only [Act.put, List.setIfInBounds_toArray, List.set_cons_zero, List.set_cons_succ]) | (refine ord_skip _ (by simp only [List.getElem?_cons_succ, List.getElem?_cons_zero]; rfl) (by rfl) ?_; try simp only [Act.put, List.setIfInBounds_toArray, List.set_cons_zero, List.set_cons_succ]))
            (refine ord_done (fun u hu => ?_); simp only [List.drop_succ_cons, List.drop_zero])
            have hLd := hLd.later hu
            have hcd := hcell_later hcd hu
            have hmd := hcell_later hmd hu
            have hgvd := Grows.trans hgvd hu
            have hL10 := hL10.later hu
            clear hu hO
            generalize hwu : u = w11 at *
            clear hwu
            refine NoPanic.normal ?_
            go_wp2_with fail
            refine wp_region_ord2 10 8 9 [(0, true), (1, true), (2, true), (3, true), (4, true), (5, true), (6, true), (7, true)] (by kernel_rfl) (by kernel_rfl) ?_
            have hgd : Grows w11 w11.drew := (Grows.refl w11).drew
            have hLd := hLd.later hgd
            have hcd := hcell_later hcd hgd
            have hmd := hcell_later hmd hgd
            have hL10 := hL10.later hgd
            have hgvd := Grows.trans hgvd hgd
            have hO := Grows.refl w11.drew
            clear hgd
            generalize w11.drew = wd2 at *
            have ld1 : ∀ u, Grows wd2 u → u.cell? ⟨g, i, none⟩ = some (.slice Ak nk ck) := fun u h => hcell_later hcd h
            have ld2 : ∀ u, Grows wd2 u → u.cell? ⟨b9, k, none⟩ = some (.int .i64 mk) := fun u h => hcell_later hmd h
            repeat (first | (refine ord_take hO _ ?_ (by simp only [List.getElem?_cons_succ, List.getElem?_cons_zero]; rfl) (by rfl) ?_ ?_; rotate_left; (· (intro u hu0 hu; (try go_simp); (try with_reducible rfl))); try simp only [Act.put, List.setIfInBounds_toArray, List.set_cons_zero, List.set_cons_succ]) | (refine ord_skip _ (by simp only [List.getElem?_cons_succ, List.getElem?_cons_zero]; rfl) (by rfl) ?_; try simp only [Act.put, List.setIfInBounds_toArray, List.set_cons_zero, List.set_cons_succ]))
            clear ld1 ld2 hO
            refine ord_done (fun u hu => ⟨?_, ?_⟩)
            · (refine op_move _ (by simp only [List.getElem?_cons_succ, List.getElem?_cons_zero]; rfl) (by rfl) (fun K hK => ?_); go_simp)
              refine (RU.out u (hLd.later hu)).mono ?_
              rintro e w12 ⟨l2, er2, ln2, c12, nn2, A12, HU2, HLn2, rfl, hc12, hL12, hfar, hg12⟩
              obtain ⟨rfl, rfl⟩ : l = l2 ∧ er = er2 := by have := HU.out.symm.trans HU2.out; simpa using this
              refine hK.out _ _ ⟨hg12, fun u2 hu2 => ?_⟩
              clear hK K
              (refine op_move _ (by simp only [List.getElem?_cons_succ, List.getElem?_cons_zero]; rfl) (by rfl) (fun K hK => ?_); go_simp)
              refine hK.out _ _ ⟨grows_alloc _ _, fun u3 hu3 => ?_⟩
              clear hK K
              have hbu : Has u3 u2.heap.size [.slice none 0 0, .int .i64 0, .int .i64 0] := (Has.new u2 41 _).later hu3
              have hgA := Grows.trans hu (Grows.trans hg12 (Grows.trans hu2 (Grows.trans (grows_alloc _ _) hu3)))
              have hLx : Lies u3 w12.heap.size A12 (l.map bv) := hL12.below (Grows.trans hu2 (Grows.trans (grows_alloc _ _) hu3))
              have hnx : ∀ ad, A12 = some ad → ad.block < w12.heap.size → ad.block ≠ u2.heap.size := fun ad _ h => by have := hu2.size; omega
              have hsx : w12.heap.size ≤ u3.heap.size := by have := hu2.size; have := hu3.size; rw [World.size_alloc] at this; omega
              have hbx2 : wd2.heap.size ≤ u2.heap.size := by have := hu.size; have := hg12.size; have := hu2.size; omega
              simp only [List.drop_succ_cons, List.drop_zero]
              go_wp2_with (refine wpList_storeb rfl 41 (.tmp 20) (.tmp 85) rfl u2.heap.size [.slice none 0 0, .int .i64 0, .int .i64 0] [.slice A12 ln2 c12, iv nn2, iv er] 3 rfl rfl hbu rfl rfl u_size (by simp [Value.oneCell']) ?_; intro w13 hb13 hg13)
              have f0 : w13.cell? ⟨u2.heap.size, 0, none⟩ = some (.slice A12 ln2 c12) := hb13.cell rfl
              have f2 : w13.cell? ⟨u2.heap.size, 2, none⟩ = some (iv er) := hb13.cell rfl
              have hLy : Lies u3 wd2.heap.size A10 (l.map bv) := hL10.below hgA
              have hLy2 := hLy.keepBut hg13 hgA.size (fun ad _ h => by omega)
              have hLx2 := hLx.keepBut hg13 hsx hnx
              have cv1 := run_string_of (P := Try.prog) w13 22 5 Try.underlying22 Try.underlying5 9 Try.underlying9 _ A10 ln c10 l HLn.out hLy2
              have cv2 := run_string_of (P := Try.prog) w13 22 5 Try.underlying22 Try.underlying5 9 Try.underlying9 _ A12 ln2 c12 l HLn2.out hLx2
              have hgB : Grows wd2 w13 := hgA.grown hg13 hgA.size (fun b hb => by injection hb with hb; omega)
              have hgC := Grows.trans hgvd hgB
              clear hLx hLx2 hLy hLy2 hgA hgB hg13 hb13 hbu hnx hsx hbx2
              refine NoPanic.normal ?_
              go_wp2_with fail
              go_roundw
              case rel => exact ⟨k + 1, by omega, by go_num, hgC⟩
              case measure => simp [intOf]; omega
            · (refine op_move _ (by simp only [List.getElem?_cons_succ, List.getElem?_cons_zero]; rfl) (by rfl) (fun K hK => ?_); go_simp)
              refine hK.out _ _ ⟨grows_alloc _ _, fun u2 hu2 => ?_⟩
              clear hK K
              (refine op_move _ (by simp only [List.getElem?_cons_succ, List.getElem?_cons_zero]; rfl) (by rfl) (fun K hK => ?_); go_simp)
              have hgX := Grows.trans hu (Grows.trans (grows_alloc _ _) hu2)
              refine (RU.out u2 (hLd.later hgX)).mono ?_
              rintro e w12 ⟨l2, er2, ln2, c12, nn2, A12, HU2, HLn2, rfl, hc12, hL12, hfar, hg12⟩
              obtain ⟨rfl, rfl⟩ : l = l2 ∧ er = er2 := by have := HU.out.symm.trans HU2.out; simpa using this
              refine hK.out _ _ ⟨hg12, fun u3 hu3 => ?_⟩
              clear hK K
              have hbu : Has u3 u.heap.size [.slice none 0 0, .int .i64 0, .int .i64 0] := (Has.new u 41 _).later (Grows.trans hu2 (Grows.trans hg12 hu3))
              have hgA := Grows.trans hgX (Grows.trans hg12 hu3)
              have hLx : Lies u3 w12.heap.size A12 (l.map bv) := hL12.below hu3
              have hnx : ∀ ad, A12 = some ad → ad.block < w12.heap.size → ad.block ≠ u.heap.size := fun ad e _ => by have := hfar ad e; have := hu2.size; rw [World.size_alloc] at this; omega
              have hsx : w12.heap.size ≤ u3.heap.size := hu3.size
              have hbx2 : wd2.heap.size ≤ u.heap.size := hu.size
              simp only [List.drop_succ_cons, List.drop_zero]
              go_wp2_with (refine wpList_storeb rfl 41 (.tmp 20) (.tmp 85) rfl u.heap.size [.slice none 0 0, .int .i64 0, .int .i64 0] [.slice A12 ln2 c12, iv nn2, iv er] 3 rfl rfl hbu rfl rfl u_size (by simp [Value.oneCell']) ?_; intro w13 hb13 hg13)
              have f0 : w13.cell? ⟨u.heap.size, 0, none⟩ = some (.slice A12 ln2 c12) := hb13.cell rfl
              have f2 : w13.cell? ⟨u.heap.size, 2, none⟩ = some (iv er) := hb13.cell rfl
              have hLy : Lies u3 wd2.heap.size A10 (l.map bv) := hL10.below hgA
              have hLy2 := hLy.keepBut hg13 hgA.size (fun ad _ h => by omega)
              have hLx2 := hLx.keepBut hg13 hsx hnx
              have cv1 := run_string_of (P := Try.prog) w13 22 5 Try.underlying22 Try.underlying5 9 Try.underlying9 _ A10 ln c10 l HLn.out hLy2
              have cv2 := run_string_of (P := Try.prog) w13 22 5 Try.underlying22 Try.underlying5 9 Try.underlying9 _ A12 ln2 c12 l HLn2.out hLx2
              have hgB : Grows wd2 w13 := hgA.grown hg13 hgA.size (fun b hb => by injection hb with hb; omega)
              have hgC := Grows.trans hgvd hgB
              clear hLx hLx2 hLy hLy2 hgA hgB hg13 hb13 hbu hnx hsx hbx2
              refine NoPanic.normal ?_
              go_wp2_with fail
              go_roundw
              case rel => exact ⟨k + 1, by omega, by go_num, hgC⟩
              case measure => simp [intOf]; omega
          · have hk3' : ¬ ((k : Int) < 3) := by omega
            have hLv := hLk.later hgv
            have hcv := hcell_later hcell hgv
            have hcount := count_any Ak nk ck lk wr HLk.out hLv hck (by omega)
            have hrcount : ∀ u, Grows wr u → Calls Try.prog 20 #[.slice Ak nk ck] u fun e w' => e = .returned (.int .i64 (countInt (countOf lk))) ∧ w' = u := fun u hu => rcount_any Ak nk ck lk u HLk.out (hLv.later hu) (by omega)
            cases hco : countOf lk with
            | none =>
              rw [hco, show countVal none = .tuple #[.int .i64 0, .int .i64 2] from rfl] at hcount
              simp only [hco, show countInt none = -1 from rfl] at hrcount
              have HCO := Lib.hid hcount
              have HRC := Lib.hid hrcount
              clear hcount hrcount hco
              go_wp2_with fail
              refine HCO.out.mono ?_
              rintro e w5 ⟨rfl, hg5⟩
              have hc5 := hcell_later hcv hg5
              go_wp2_with fail
              refine (HRC.out w5 hg5).mono ?_
              rintro e w6 ⟨rfl, rfl⟩
              go_wp2_with fail
              go_roundw
              case rel => exact ⟨i + 1, by omega, by go_num, Grows.trans hgr (Grows.trans hgv hg5)⟩
              case measure => simp [intOf]; omega
            | some t =>
              rw [hco, show countVal (some t) = .tuple #[iv t, .int .i64 0] from rfl] at hcount
              simp only [hco, show countInt (some t) = (t : Int) from rfl] at hrcount
              have HCO := Lib.hid hcount
              have HRC := Lib.hid hrcount
              clear hcount hrcount hco
              have ht0 : (0 : Int) ≤ (t : Int) := by omega
              go_wp2_with fail
              refine HCO.out.mono ?_
              rintro e w5 ⟨rfl, hg5⟩
              have hc5 := hcell_later hcv hg5
              go_wp2_with fail
              refine (HRC.out w5 hg5).mono ?_
              rintro e w6 ⟨rfl, rfl⟩
              go_wp2_with fail
              go_roundw
              case rel => exact ⟨i + 1, by omega, by go_num, Grows.trans hgr (Grows.trans hgv hg5)⟩
              case measure => simp [intOf]; omega
      · have hiN' : ¬ ((i : Int) < 4) := by omega
        go_wp2_with fail
        refine (lives5_any _).mono ?_
        rintro e w99 ⟨rfl, hg99⟩
        go_wp2_with fail
        go_ret
        exact ⟨rfl, Grows.trans hg09 (Grows.trans hgr hg99)⟩
  · obtain rfl : pn = 0 := by omega
    go_wp2_with fail
    change Calls _ _ _ (w3.alloc (.cells #[.slice A1 n1 c1, .slice A3 0 c3] 22)) _
    have hR : Rows_ (w3.alloc (.cells #[.slice A1 n1 c1, .slice A3 0 c3] 22)) w3.heap.size 2 := fun r hr => by
      match r, hr with
      | 0, _ => exact ⟨A1, n1, c1, l1, hbx.cell rfl, HL1.out, hL14, hc1, hn1⟩
      | 1, _ => exact ⟨A3, 0, c3, p, hbx.cell rfl, HPN.out, hL34, hc3, by omega⟩
    have hg08 := hg04
    clear hbx hL14 hL34 hg04 hga
    generalize w3.alloc (.cells #[.slice A1 n1 c1, .slice A3 0 c3] 22) = w8 at *
    generalize w3.heap.size = g at *
    refine (around_any most 321 w8 hmo ⟨by omega, by omega⟩).mono ?_
    rintro e w' ⟨rfl, rfl⟩
    have hm1 := around_lt most (m := 321) (by omega)
    generalize around most 321 = m1 at *
    have hbox := Has.new w8 3 [.int .i64 most, .int .i64 (m1 : Int), .int .i64 4000]
    have hga := grows_alloc w8 (.cells #[.int .i64 most, .int .i64 (m1 : Int), .int .i64 4000] 3)
    have hR9 := hR.later hga
    have hg09 := Grows.trans hg08 hga
    go_wp2_with fail
    change Code.wp _ _ _ _ (w8.alloc (.cells #[.int .i64 most, .int .i64 (m1 : Int), .int .i64 4000] 3))
    clear hR hg08 hga
    generalize w8.alloc (.cells #[.int .i64 most, .int .i64 (m1 : Int), .int .i64 4000] 3) = w9 at *
    generalize w8.heap.size = b9 at *
    go_loopw [16, 17, 18, 19, 20, 21, 22, 23] (fun q _ _ _ _ _ _ _ wr => ∃ i : Nat, i ≤ 2 ∧ q = iv i ∧ Grows w9 wr) (fun q _ _ _ _ _ _ _ _ => 2 - (intOf q).toNat)
    case atStart => exact ⟨0, by omega, rfl, Grows.refl _⟩
    case round =>
      obtain ⟨i, hi, rfl, hgr⟩ := hrel
      by_cases hiN : i < 2
      · obtain ⟨Ak, nk, ck, lk, hcell, hlk, hLk, hck, hmk⟩ := hR9.later hgr i hiN
        have HLk := Lib.hid hlk
        clear hlk
        have hiN' : (i : Int) < 2 := by omega
        have hb9 := hbox.later hgr
        go_wp2_with fail
        go_loopw [17, 18, 19, 20] (fun q _ _ _ wv => ∃ k : Nat, k ≤ 3 ∧ q = iv k ∧ Grows wr wv) (fun q _ _ _ _ => 3 - (intOf q).toNat)
        case atStart => exact ⟨0, by omega, rfl, Grows.refl _⟩
        case round =>
          obtain ⟨k, hk, rfl, hgv⟩ := hrel
          by_cases hk3 : k < 3
          · have hk3' : (k : Int) < 3 := by omega
            obtain ⟨mk, hmk1, hcm⟩ := three_ints (hb9.later hgv) hmo (by omega) k hk3
            have hcv := hcell_later hcell hgv
            have hLv := hLk.later hgv
            have UN : ∀ u : World, Lies u u.heap.size Ak (lk.map bv) → Calls Try.prog 15 #[.slice Ak nk ck, .int .i64 mk] u fun e w' => ∃ (l : List UInt8) (er ln c' : Nat) (A' : Option Addr), Hid (unpackOf lk mk = (l, er)) ∧ Hid (l.length = ln) ∧ e = .returned (.tuple #[.slice A' ln c', iv er]) ∧ ln ≤ c' ∧ Lies w' w'.heap.size A' (l.map bv) ∧ Grows u w' := fun u hu => unpack_out Ak nk ck lk mk u HLk.out hu hck (by omega) hmk1
            have RU : ∀ u : World, Lies u u.heap.size Ak (lk.map bv) → Calls Try.prog 18 #[.slice Ak nk ck, .int .i64 mk] u fun e w' => UOut lk mk u e w' := fun u hu => runpack_any Ak nk ck lk mk u HLk.out hu hck (by omega)
            have UN := Lib.hid UN
            have RU := Lib.hid RU
            go_wp2_with fail
            refine wp_region_ord 14 [(0, true), (1, true), (2, true), (3, true), (4, true), (5, true), (6, true), (7, true), (8, false), (9, true), (10, true), (11, true), (12, true), (13, true)] (by kernel_rfl) (by kernel_rfl) ?_
            have hgd : Grows wr wr.drew := (Grows.refl wr).drew
            have hLd := hLv.later hgd
            have hcd := hcell_later hcv hgd
            have hmd := hcell_later hcm hgd
            have hgvd := Grows.trans hgv hgd
            have hO := Grows.refl wr.drew
            clear hLv hcv hcm hgv hgd
            generalize wr.drew = wd at *
            have ld1 : ∀ u, Grows wd u → u.cell? ⟨g, i, none⟩ = some (.slice Ak nk ck) := fun u h => hcell_later hcd h
            have ld2 : ∀ u, Grows wd u → u.cell? ⟨b9, k, none⟩ = some (.int .i64 mk) := fun u h => hcell_later hmd h
            repeat (first | (refine ord_take hO _ ?_ (by simp only [List.getElem?_cons_succ, List.getElem?_cons_zero]; rfl) (by rfl) ?_ ?_; rotate_left; (· (intro u hu0 hu; (try go_simp); (try with_reducible rfl))); try simp only [Act.put, List.setIfInBounds_toArray, List.set_cons_zero, List.set_cons_succ]) | (refine ord_skip _ (by simp only [List.getElem?_cons_succ, List.getElem?_cons_zero]; rfl) (by rfl) ?_; try simp only [Act.put, List.setIfInBounds_toArray, List.set_cons_zero, List.set_cons_succ]))
            (refine ord_move _ (by simp only [List.getElem?_cons_succ, List.getElem?_cons_zero]; rfl) (by rfl) (fun u hu K hK => ?_); go_simp)
            refine (UN.out u (hLd.later hu)).mono ?_
            rintro e w10 ⟨l, er, ln, c10, A10, HU, HLn, rfl, hc10, hL10, hg10⟩
            refine hK.out _ _ hg10 ?_
            clear hK K
            have hgu := Grows.trans hu hg10
            have hLd := hLd.later hgu
            have hcd := hcell_later hcd hgu
            have hmd := hcell_later hmd hgu
            have hgvd := Grows.trans hgvd hgu
            have hO := Grows.refl w10
            clear ld1 ld2 hu hgu hg10
            repeat (first | (refine ord_take hO _ ?_ (by simp only [List.getElem?_cons_succ, List.getElem?_cons_zero]; rfl) (by rfl) ?_ ?_; rotate_left; (· (intro u hu0 hu; (try go_simp); (try with_reducible rfl))); try simp only [Act.put, List.setIfInBounds_toArray, List.set_cons_zero, List.set_cons_succ]) | (refine ord_skip _ (by simp only [List.getElem?_cons_succ, List.getElem?_cons_zero]; rfl) (by rfl) ?_; try simp only [Act.put, List.setIfInBounds_toArray, List.set_cons_zero, List.set_cons_succ]))
            (refine ord_done (fun u hu => ?_); simp only [List.drop_succ_cons, List.drop_zero])
            have hLd := hLd.later hu
            have hcd := hcell_later hcd hu
            have hmd := hcell_later hmd hu
            have hgvd := Grows.trans hgvd hu
            have hL10 := hL10.later hu
            clear hu hO
            generalize hwu : u = w11 at *
            clear hwu
            refine NoPanic.normal ?_
            go_wp2_with fail
            refine wp_region_ord2 10 8 9 [(0, true), (1, true), (2, true), (3, true), (4, true), (5, true), (6, true), (7, true)] (by kernel_rfl) (by kernel_rfl) ?_
            have hgd : Grows w11 w11.drew := (Grows.refl w11).drew
            have hLd := hLd.later hgd
            have hcd := hcell_later hcd hgd
            have hmd := hcell_later hmd hgd
            have hL10 := hL10.later hgd
            have hgvd := Grows.trans hgvd hgd
            have hO := Grows.refl w11.drew
            clear hgd
            generalize w11.drew = wd2 at *
            have ld1 : ∀ u, Grows wd2 u → u.cell? ⟨g, i, none⟩ = some (.slice Ak nk ck) := fun u h => hcell_later hcd h
            have ld2 : ∀ u, Grows wd2 u → u.cell? ⟨b9, k, none⟩ = some (.int .i64 mk) := fun u h => hcell_later hmd h
            repeat (first | (refine ord_take hO _ ?_ (by simp only [List.getElem?_cons_succ, List.getElem?_cons_zero]; rfl) (by rfl) ?_ ?_; rotate_left; (· (intro u hu0 hu; (try go_simp); (try with_reducible rfl))); try simp only [Act.put, List.setIfInBounds_toArray, List.set_cons_zero, List.set_cons_succ]) | (refine ord_skip _ (by simp only [List.getElem?_cons_succ, List.getElem?_cons_zero]; rfl) (by rfl) ?_; try simp only [Act.put, List.setIfInBounds_toArray, List.set_cons_zero, List.set_cons_succ]))
            clear ld1 ld2 hO
            refine ord_done (fun u hu => ⟨?_, ?_⟩)
            · (refine op_move _ (by simp only [List.getElem?_cons_succ, List.getElem?_cons_zero]; rfl) (by rfl) (fun K hK => ?_); go_simp)
              refine (RU.out u (hLd.later hu)).mono ?_
              rintro e w12 ⟨l2, er2, ln2, c12, nn2, A12, HU2, HLn2, rfl, hc12, hL12, hfar, hg12⟩
              obtain ⟨rfl, rfl⟩ : l = l2 ∧ er = er2 := by have := HU.out.symm.trans HU2.out; simpa using this
              refine hK.out _ _ ⟨hg12, fun u2 hu2 => ?_⟩
              clear hK K
              (refine op_move _ (by simp only [List.getElem?_cons_succ, List.getElem?_cons_zero]; rfl) (by rfl) (fun K hK => ?_); go_simp)
              refine hK.out _ _ ⟨grows_alloc _ _, fun u3 hu3 => ?_⟩
              clear hK K
              have hbu : Has u3 u2.heap.size [.slice none 0 0, .int .i64 0, .int .i64 0] := (Has.new u2 41 _).later hu3
              have hgA := Grows.trans hu (Grows.trans hg12 (Grows.trans hu2 (Grows.trans (grows_alloc _ _) hu3)))
              have hLx : Lies u3 w12.heap.size A12 (l.map bv) := hL12.below (Grows.trans hu2 (Grows.trans (grows_alloc _ _) hu3))
              have hnx : ∀ ad, A12 = some ad → ad.block < w12.heap.size → ad.block ≠ u2.heap.size := fun ad _ h => by have := hu2.size; omega
              have hsx : w12.heap.size ≤ u3.heap.size := by have := hu2.size; have := hu3.size; rw [World.size_alloc] at this; omega
              have hbx2 : wd2.heap.size ≤ u2.heap.size := by have := hu.size; have := hg12.size; have := hu2.size; omega
              simp only [List.drop_succ_cons, List.drop_zero]
              go_wp2_with (refine wpList_storeb rfl 41 (.tmp 20) (.tmp 85) rfl u2.heap.size [.slice none 0 0, .int .i64 0, .int .i64 0] [.slice A12 ln2 c12, iv nn2, iv er] 3 rfl rfl hbu rfl rfl u_size (by simp [Value.oneCell']) ?_; intro w13 hb13 hg13)
              have f0 : w13.cell? ⟨u2.heap.size, 0, none⟩ = some (.slice A12 ln2 c12) := hb13.cell rfl
              have f2 : w13.cell? ⟨u2.heap.size, 2, none⟩ = some (iv er) := hb13.cell rfl
              have hLy : Lies u3 wd2.heap.size A10 (l.map bv) := hL10.below hgA
              have hLy2 := hLy.keepBut hg13 hgA.size (fun ad _ h => by omega)
              have hLx2 := hLx.keepBut hg13 hsx hnx
              have cv1 := run_string_of (P := Try.prog) w13 22 5 Try.underlying22 Try.underlying5 9 Try.underlying9 _ A10 ln c10 l HLn.out hLy2
              have cv2 := run_string_of (P := Try.prog) w13 22 5 Try.underlying22 Try.underlying5 9 Try.underlying9 _ A12 ln2 c12 l HLn2.out hLx2
              have hgB : Grows wd2 w13 := hgA.grown hg13 hgA.size (fun b hb => by injection hb with hb; omega)
              have hgC := Grows.trans hgvd hgB
              clear hLx hLx2 hLy hLy2 hgA hgB hg13 hb13 hbu hnx hsx hbx2
              refine NoPanic.normal ?_
              go_wp2_with fail
              go_roundw
              case rel => exact ⟨k + 1, by omega, by go_num, hgC⟩
              case measure => simp [intOf]; omega
            · (refine op_move _ (by simp only [List.getElem?_cons_succ, List.getElem?_cons_zero]; rfl) (by rfl) (fun K hK => ?_); go_simp)
              refine hK.out _ _ ⟨grows_alloc _ _, fun u2 hu2 => ?_⟩
              clear hK K
              (refine op_move _ (by simp only [List.getElem?_cons_succ, List.getElem?_cons_zero]; rfl) (by rfl) (fun K hK => ?_); go_simp)
              have hgX := Grows.trans hu (Grows.trans (grows_alloc _ _) hu2)
              refine (RU.out u2 (hLd.later hgX)).mono ?_
              rintro e w12 ⟨l2, er2, ln2, c12, nn2, A12, HU2, HLn2, rfl, hc12, hL12, hfar, hg12⟩
              obtain ⟨rfl, rfl⟩ : l = l2 ∧ er = er2 := by have := HU.out.symm.trans HU2.out; simpa using this
              refine hK.out _ _ ⟨hg12, fun u3 hu3 => ?_⟩
              clear hK K
              have hbu : Has u3 u.heap.size [.slice none 0 0, .int .i64 0, .int .i64 0] := (Has.new u 41 _).later (Grows.trans hu2 (Grows.trans hg12 hu3))
              have hgA := Grows.trans hgX (Grows.trans hg12 hu3)
              have hLx : Lies u3 w12.heap.size A12 (l.map bv) := hL12.below hu3
              have hnx : ∀ ad, A12 = some ad → ad.block < w12.heap.size → ad.block ≠ u.heap.size := fun ad e _ => by have := hfar ad e; have := hu2.size; rw [World.size_alloc] at this; omega
              have hsx : w12.heap.size ≤ u3.heap.size := hu3.size
              have hbx2 : wd2.heap.size ≤ u.heap.size := hu.size
              simp only [List.drop_succ_cons, List.drop_zero]
              go_wp2_with (refine wpList_storeb rfl 41 (.tmp 20) (.tmp 85) rfl u.heap.size [.slice none 0 0, .int .i64 0, .int .i64 0] [.slice A12 ln2 c12, iv nn2, iv er] 3 rfl rfl hbu rfl rfl u_size (by simp [Value.oneCell']) ?_; intro w13 hb13 hg13)
              have f0 : w13.cell? ⟨u.heap.size, 0, none⟩ = some (.slice A12 ln2 c12) := hb13.cell rfl
              have f2 : w13.cell? ⟨u.heap.size, 2, none⟩ = some (iv er) := hb13.cell rfl
              have hLy : Lies u3 wd2.heap.size A10 (l.map bv) := hL10.below hgA
              have hLy2 := hLy.keepBut hg13 hgA.size (fun ad _ h => by omega)
              have hLx2 := hLx.keepBut hg13 hsx hnx
              have cv1 := run_string_of (P := Try.prog) w13 22 5 Try.underlying22 Try.underlying5 9 Try.underlying9 _ A10 ln c10 l HLn.out hLy2
              have cv2 := run_string_of (P := Try.prog) w13 22 5 Try.underlying22 Try.underlying5 9 Try.underlying9 _ A12 ln2 c12 l HLn2.out hLx2
              have hgB : Grows wd2 w13 := hgA.grown hg13 hgA.size (fun b hb => by injection hb with hb; omega)
              have hgC := Grows.trans hgvd hgB
              clear hLx hLx2 hLy hLy2 hgA hgB hg13 hb13 hbu hnx hsx hbx2
              refine NoPanic.normal ?_
              go_wp2_with fail
              go_roundw
              case rel => exact ⟨k + 1, by omega, by go_num, hgC⟩
              case measure => simp [intOf]; omega
          · have hk3' : ¬ ((k : Int) < 3) := by omega
            have hLv := hLk.later hgv
            have hcv := hcell_later hcell hgv
            have hcount := count_any Ak nk ck lk wr HLk.out hLv hck (by omega)
            have hrcount : ∀ u, Grows wr u → Calls Try.prog 20 #[.slice Ak nk ck] u fun e w' => e = .returned (.int .i64 (countInt (countOf lk))) ∧ w' = u := fun u hu => rcount_any Ak nk ck lk u HLk.out (hLv.later hu) (by omega)
            cases hco : countOf lk with
            | none =>
              rw [hco, show countVal none = .tuple #[.int .i64 0, .int .i64 2] from rfl] at hcount
              simp only [hco, show countInt none = -1 from rfl] at hrcount
              have HCO := Lib.hid hcount
              have HRC := Lib.hid hrcount
              clear hcount hrcount hco
              go_wp2_with fail
              refine HCO.out.mono ?_
              rintro e w5 ⟨rfl, hg5⟩
              have hc5 := hcell_later hcv hg5
              go_wp2_with fail
              refine (HRC.out w5 hg5).mono ?_
              rintro e w6 ⟨rfl, rfl⟩
              go_wp2_with fail
              go_roundw
              case rel => exact ⟨i + 1, by omega, by go_num, Grows.trans hgr (Grows.trans hgv hg5)⟩
              case measure => simp [intOf]; omega
            | some t =>
              rw [hco, show countVal (some t) = .tuple #[iv t, .int .i64 0] from rfl] at hcount
              simp only [hco, show countInt (some t) = (t : Int) from rfl] at hrcount
              have HCO := Lib.hid hcount
              have HRC := Lib.hid hrcount
              clear hcount hrcount hco
              have ht0 : (0 : Int) ≤ (t : Int) := by omega
              go_wp2_with fail
              refine HCO.out.mono ?_
              rintro e w5 ⟨rfl, hg5⟩
              have hc5 := hcell_later hcv hg5
              go_wp2_with fail
              refine (HRC.out w5 hg5).mono ?_
              rintro e w6 ⟨rfl, rfl⟩
              go_wp2_with fail
              go_roundw
              case rel => exact ⟨i + 1, by omega, by go_num, Grows.trans hgr (Grows.trans hgv hg5)⟩
              case measure => simp [intOf]; omega
      · have hiN' : ¬ ((i : Int) < 2) := by omega
        go_wp2_with fail
        refine (lives5_any _).mono ?_
        rintro e w99 ⟨rfl, hg99⟩
        go_wp2_with fail
        go_ret
        exact ⟨rfl, Grows.trans hg09 (Grows.trans hgr hg99)⟩
end Go.Proofs.Ytilpeekdjifjhaa
