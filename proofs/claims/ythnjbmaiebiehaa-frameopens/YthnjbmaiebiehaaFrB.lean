/-
  Contracts of frame's split.
-/
import Derived.Test.YthnjbmaiebiehaaFrA
import Derived.Test.YthnjbmaiebiehaaFrM
import Derived.Test.YthnjbmaiebiehaaCut2
namespace Go.Proofs.Ythnjbmaiebiehaa
open Go.RowKit
set_option linter.unusedVariables false

theorem parts_desc : (Try.prog.underlying 48).map (·.isRow) = some true := by kernel_rfl
theorem parts_size : (Try.prog.info? 48).map (·.size) = some 4 := by kernel_rfl

/-- What split answers. -/
def SOut (f : List UInt8) (w : World) (e : Ending) (w' : World) : Prop :=
  (formB f = true ∧ ∃ (A' : Option Addr) (c' : Nat), e = .returned (.agg #[.bool (pkB f), iv (toldN f), .slice A' (f.length - 10) c', uv (sumN f)]) ∧ f.length - 10 ≤ c' ∧ Lies w' w.heap.size A' ((keptL f).map bv) ∧ Grows w w') ∨
  (formB f = false ∧ e = .panicked (why 2) ∧ Grows w w')

set_option maxRecDepth 20000 in
set_option maxHeartbeats 4000000 in
theorem split_any (A : Option Addr) (n c : Nat) (f : List UInt8) (w : World) (hl : f.length = n) (hr : Lies w w.heap.size A (f.map bv)) (hc : n ≤ c) (hn : n ≤ 1000000000) :
    Calls Try.prog 26 #[.slice A n c] w fun e w' => SOut f w e w' := by
  obtain ⟨td, htd, htr⟩ := Option.map_eq_some_iff.1 parts_desc
  have hb0 := Has.new w 48 [.bool false, .int .i64 0, .slice none 0 0, .int .u32 0]
  have hg0 := grows_alloc w (.cells #[.bool false, .int .i64 0, .slice none 0 0, .int .u32 0] 48)
  have no : ∀ w', Grows w w' → formB f = false → SOut f w (.panicked (why 2)) w' := fun w' hg h => .inr ⟨h, rfl, hg⟩
  go_enter Try.func26, Try.ntmps26
  by_cases h10 : n < 10
  · have h10' : ¬ (10 ≤ (n : Int)) := by omega
    have HF : Hid (formB f = false) := by show _ = _; unfold formB; rw [hl]; simp; omega
    go_wp2_with fail
    refine (must_no 2 _).mono ?_
    rintro e w' ⟨rfl, rfl⟩
    exact ⟨rfl, no _ hg0 HF.out⟩
  · have h10' : 10 ≤ (n : Int) := by omega
    obtain ⟨m, hm⟩ : ∃ m, n = m + 10 := ⟨n - 10, by omega⟩
    have HM := Lib.hid hm
    clear hm
    obtain ⟨x0, hx0⟩ : ∃ x, f[0]? = some x := ⟨_, List.getElem?_eq_getElem (by omega)⟩
    obtain ⟨x1, hx1⟩ : ∃ x, f[1]? = some x := ⟨_, List.getElem?_eq_getElem (by omega)⟩
    have HL := Lib.hid hl
    have HF : Hid (formB f = (x0 == 76 && (x1 == 0 || x1 == 1))) := by
      show _ = _
      unfold formB
      rw [hl, List.getD, List.getD, hx0, hx1]
      rw [decide_eq_true (by omega)]
      simp
    have HP : Hid (pkB f = (x1 == 1)) := by show _ = _; unfold pkB; rw [List.getD, hx1]; rfl
    clear hl
    have hr0 := hr.later hg0
    obtain ⟨ad, rfl, _, c0⟩ := hr0.at_ (j := 0) (u := bv x0) (by rw [List.getElem?_map, hx0]; rfl)
    have c1 := hr0.cells 1 (bv x1) (by rw [List.getElem?_map, hx1]; rfl)
    rw [add_zero_eq] at c0
    have c1 : (w.alloc (.cells #[.bool false, .int .i64 0, .slice none 0 0, .int .u32 0] 48)).cell? ⟨ad.block, ad.off + 1, none⟩ = some (bv x1) := by rw [show ad.add 1 = ⟨ad.block, ad.off + 1, none⟩ from by simp [Addr.add]] at c1; exact c1
    clear hx0 hx1
    by_cases h76 : x0 = 76
    · subst h76
      by_cases h01 : x1 = 0 ∨ x1 = 1
      · have HT : Hid (formB f = true) := by show _ = _; rw [HF.out]; rcases h01 with rfl | rfl <;> rfl
        have HN : Hid (f.length - 10 = m) := by show _ = _; rw [HL.out, HM.out]; omega
        have HE : Hid ((n : Int) - 4 = ((m + 6 : Nat) : Int)) := by show _ = _; rw [HM.out]; omega
        obtain ⟨Aa, hca, hLa⟩ := cut_mid (P := Try.prog) Try.underlying22 byte_one (some ad) n c .i64 .i64 2 6 2 6 rfl rfl (by omega) (by omega)
        obtain ⟨Ab, hcb, hLb⟩ := cut_mid (P := Try.prog) Try.underlying22 byte_one (some ad) n c .i64 .i64 6 ((n : Int) - 4) 6 (m + 6) rfl HE.out (by omega) (by have := HM.out; omega)
        obtain ⟨Ac, hcc, hLc⟩ := cut_from (P := Try.prog) Try.underlying22 byte_one (some ad) n c .i64 ((n : Int) - 4) (m + 6) HE.out (by have := HM.out; omega) hc
        rw [show 6 - 2 = 4 from rfl] at hca
        rw [show m + 6 - 6 = m by omega] at hcb
        rw [show n - (m + 6) = 4 by have := HM.out; omega] at hcc
        have hla := hLa _ _ _ hr0
        have hlb := hLb _ _ _ hr
        have hlc := hLc _ _ _ (by rw [List.length_map]; exact HL.out) hr0
        rw [← List.map_drop, ← List.map_take] at hla hlb
        rw [← List.map_drop] at hlc
        have hX : toldN f < 4294967296 := toldN_lt f
        have hS : sumN f < 4294967296 := sumN_lt f
        have HX : Hid (numTo ((f.drop 2).take (6 - 2)) 4 = toldN f) := rfl
        have HS : Hid (numTo (f.drop (m + 6)) 4 = sumN f) := by show _ = _; unfold sumN; rw [HL.out, show n - 4 = m + 6 by have := HM.out; omega]
        have HXL : Hid (((f.drop 2).take (6 - 2)).length = 4) := by show _ = _; rw [List.length_take, List.length_drop, HL.out]; omega
        have HSL : Hid ((f.drop (m + 6)).length = 4) := by show _ = _; rw [List.length_drop, HL.out]; have := HM.out; omega
        have HKL : Hid ((f.drop 6).take (m + 6 - 6) = keptL f) := by show _ = _; unfold keptL; rw [HL.out, show n - 10 = m + 6 - 6 by have := HM.out; omega]
        rw [HKL.out] at hlb
        clear hLa hLb hLc
        unfold SOut at *
        generalize toldN f = x at *
        generalize sumN f = s at *
        have H01 := Lib.hid h01
        rcases h01 with rfl | rfl
        all_goals
          go_wp2_with fail
          refine (must_yes 2 _).mono ?_
          rintro e w' ⟨rfl, rfl⟩
          go_wp2_with fail
          refine (must_yes 2 _).mono ?_
          rintro e w' ⟨rfl, rfl⟩
          go_wp2_with fail
          refine (must_yes 2 _).mono ?_
          rintro e w' ⟨rfl, rfl⟩
          go_wp2_with fail
          change Code.wp _ _ _ _ (w.alloc (.cells #[.bool false, .int .i64 0, .slice none 0 0, .int .u32 0] 48))
          clear c0
          generalize w.alloc (.cells #[.bool false, .int .i64 0, .slice none 0 0, .int .u32 0] 48) = w0 at *
          refine wp_region_ord 16 [(0, true), (1, true), (2, true), (3, true), (4, true), (5, true), (6, true), (7, true), (8, true), (9, true), (10, true), (11, true), (12, true), (13, true), (14, true), (15, true)] (by kernel_rfl) (by kernel_rfl) ?_
          have hgd : Grows w0 w0.drew := (Grows.refl w0).drew
          have hla := Lib.hid (hla.later hgd)
          have hlc := Lib.hid (hlc.later hgd)
          have hld := hcell_later c1 hgd
          have hO := Grows.refl w0.drew
          have HGD := Lib.hid hgd
          clear hgd c1 hr0
          have hn1 : (1 : Int) < (n : Int) := by omega
          have hwx : IntKind.i64.wrap (x : Int) = (x : Int) := by unfold IntKind.wrap; simp [IntKind.signed, IntKind.bits]; omega
          generalize w0.drew = wd at *
          have ld1 : ∀ u, Grows wd u → u.cell? ⟨ad.block, ad.off + 1, none⟩ = some (bv _) := fun u h => hcell_later hld h
          repeat (first | (refine ord_cut hO _ ?_ (by simp only [List.getElem?_cons_succ, List.getElem?_cons_zero]; rfl) (by rfl) 22 (.tmp 31) (some (.const (.int .i64 2))) (some (.const (.int .i64 6))) none (by rfl) ?_ ?_; rotate_left; (· (exact hca)); try simp only [Act.put, List.setIfInBounds_toArray, List.set_cons_zero, List.set_cons_succ]) | (refine ord_cut hO _ ?_ (by simp only [List.getElem?_cons_succ, List.getElem?_cons_zero]; rfl) (by rfl) 22 (.tmp 35) (some (.const (.int .i64 6))) (some (.tmp 36)) none (by rfl) ?_ ?_; rotate_left; (· (exact hcb)); try simp only [Act.put, List.setIfInBounds_toArray, List.set_cons_zero, List.set_cons_succ]) | (refine ord_cut hO _ ?_ (by simp only [List.getElem?_cons_succ, List.getElem?_cons_zero]; rfl) (by rfl) 22 (.tmp 38) (some (.tmp 39)) none none (by rfl) ?_ ?_; rotate_left; (· (exact hcc)); try simp only [Act.put, List.setIfInBounds_toArray, List.set_cons_zero, List.set_cons_succ]) | (refine ord_take hO _ ?_ (by simp only [List.getElem?_cons_succ, List.getElem?_cons_zero]; rfl) (by rfl) ?_ ?_; rotate_left; (· (intro u hu0 hu; (try go_simp); (try with_reducible rfl))); try simp only [Act.put, List.setIfInBounds_toArray, List.set_cons_zero, List.set_cons_succ]) | (refine ord_skip _ (by simp only [List.getElem?_cons_succ, List.getElem?_cons_zero]; rfl) (by rfl) ?_; try simp only [Act.put, List.setIfInBounds_toArray, List.set_cons_zero, List.set_cons_succ]) | (refine ord_call hO _ ?_ (by simp only [List.getElem?_cons_succ, List.getElem?_cons_zero]; rfl) (by rfl) ?_ ?_; rotate_left; (· (intro u hu0 hu; go_simp; (try refine quiet_enter ?_); (first | with_reducible exact fnumber_g _ _ HX _ HXL.out (hla.out.later hu0) | with_reducible exact fnumber_g _ _ HS _ HSL.out (hlc.out.later hu0)))); try simp only [Act.put, List.setIfInBounds_toArray, List.set_cons_zero, List.set_cons_succ]))
          clear hO ld1 hca hcb hcc hld
          (refine ord_done (fun u hu => ?_); simp only [List.drop_succ_cons, List.drop_zero])
          have hgu := Grows.trans HGD.out hu
          have hb1 := hb0.later hgu
          have hgu := Grows.trans hg0 hgu
          clear hu HGD hla hlc hb0 hg0
          go_wp2_with (refine wpList_storev rfl 48 (.tmp 2) (.tmp 42) rfl w.heap.size [.bool false, .int .i64 0, .slice none 0 0, .int .u32 0] [.bool _, iv x, .slice Ab m (c - 6), uv s] 4 rfl rfl hb1 rfl rfl parts_size (by simp [Value.oneCell']) ?_; intro w5 hb5 hbel5)
          refine NoPanic.normal ?_
          go_wp2_with fail
          refine bodyPost_ret (res_has (vs := [.bool _, iv x, .slice Ab m (c - 6), uv s]) rfl _ rfl htd htr parts_size hb5) rfl ?_
          have hgf := hbel5 w.heap.size w (Nat.le_refl _) hgu
          refine .inl ⟨HT.out, Ab, c - 6, ?_, by rw [HN.out]; have := HM.out; omega, hlb.below hgf, hgf⟩
          rw [HN.out, HP.out]
          rfl
      · have HT : Hid (formB f = false) := by
          show _ = _
          rw [HF.out]
          have h0 : (x1 == 0) = false := by simpa using fun h => h01 (.inl h)
          have h1 : (x1 == 1) = false := by simpa using fun h => h01 (.inr h)
          rw [h0, h1]; rfl
        have g0 : ((x1.toNat : Int) == 0) = false := by simpa using fun h : (x1.toNat : Int) = 0 => h01 (.inl (UInt8.toNat_inj.1 (by simp; omega)))
        have g1 : ((x1.toNat : Int) == 1) = false := by simpa using fun h : (x1.toNat : Int) = 1 => h01 (.inr (UInt8.toNat_inj.1 (by simp; omega)))
        go_wp2_with fail
        refine (must_yes 2 _).mono ?_
        rintro e w' ⟨rfl, rfl⟩
        go_wp2_with fail
        refine (must_yes 2 _).mono ?_
        rintro e w' ⟨rfl, rfl⟩
        go_wp2_with fail
        refine (must_no 2 _).mono ?_
        rintro e w' ⟨rfl, rfl⟩
        exact ⟨rfl, no _ hg0 HT.out⟩
    · have HT : Hid (formB f = false) := by
        show _ = _
        rw [HF.out]
        have h0 : (x0 == 76) = false := by simpa using h76
        rw [h0]; rfl
      have g0 : ((x0.toNat : Int) == 76) = false := by simpa using fun h : (x0.toNat : Int) = 76 => h76 (UInt8.toNat_inj.1 (by simp; omega))
      go_wp2_with fail
      refine (must_yes 2 _).mono ?_
      rintro e w' ⟨rfl, rfl⟩
      go_wp2_with fail
      refine (must_no 2 _).mono ?_
      rintro e w' ⟨rfl, rfl⟩
      exact ⟨rfl, no _ hg0 HT.out⟩
end Go.Proofs.Ythnjbmaiebiehaa
