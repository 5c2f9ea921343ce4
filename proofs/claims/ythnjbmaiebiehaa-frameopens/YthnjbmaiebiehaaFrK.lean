/-
  Contract of the reference's Open of layer 6.
-/
import Derived.Test.YthnjbmaiebiehaaFrJ
import Derived.Test.YthnjbmaiebiehaaL5J
namespace Go.Proofs.Ythnjbmaiebiehaa
open Go.RowKit
set_option linter.unusedVariables false

/-- What the reference's Open answers. -/
def RO (f : List UInt8) (most : Int) (w : World) (e : Ending) (w' : World) : Prop :=
  ∃ (l : List UInt8) (er ln c' : Nat) (A' : Option Addr), Hid (openOf f most = (l, er)) ∧ Hid (l.length = ln) ∧ e = .returned (.tuple #[.slice A' ln c', iv er]) ∧ Lies w' w'.heap.size A' (l.map bv) ∧ Grows w w'

set_option maxRecDepth 20000 in
set_option maxHeartbeats 4000000 in
theorem ropen_any (A : Option Addr) (n c : Nat) (f : List UInt8) (most : Int) (w : World) (hl : f.length = n) (hr : Lies w w.heap.size A (f.map bv)) (hc : n ≤ c) (hn : n ≤ 1000000000) :
    Calls Try.prog 17 #[.slice A n c, .int .i64 most] w fun e w' => RO f most w e w' := by
  have no : ∀ w' er, Grows w w' → openOf f most = ([], er) → RO f most w (.returned (.tuple #[.slice none 0 0, iv er])) w' := fun w' er hg h => ⟨[], er, 0, 0, none, h, rfl, rfl, Lies.empty, hg⟩
  have NO := Lib.hid no
  clear no
  have HL := Lib.hid hl
  have RL := Lib.hid (rlength_any A n c f w hl hr hc hn)
  go_enter Try.func17, Try.ntmps17
  go_wp2_with fail
  refine RL.out.mono ?_
  rintro e w1 ⟨rfl, hg1⟩
  clear RL
  by_cases hF : formB f = true
  · rw [rlen_some hF]
    have HO : Hid (openOf f most = if most < (toldN f : Int) then ([], 3) else sumOf (sumN f) (wereOf (pkB f) (toldN f) (keptL f))) := by show _ = _; unfold openOf; rw [if_neg (by rw [hF]; exact Bool.noConfusion)]
    have h10 : 10 ≤ n := by
      unfold formB at hF
      simp only [Bool.and_eq_true, decide_eq_true_eq] at hF
      omega
    obtain ⟨x1, hx1⟩ : ∃ x, f[1]? = some x := ⟨_, List.getElem?_eq_getElem (by omega)⟩
    have HPK : Hid (pkB f = (x1 == 1)) := by show _ = _; unfold pkB; rw [List.getD, hx1]; rfl
    have hr1 := hr.later hg1
    obtain ⟨ad, rfl, _, c1⟩ := hr1.at_ (j := 1) (u := bv x1) (by rw [List.getElem?_map, hx1]; rfl)
    rw [show ad.add 1 = ⟨ad.block, ad.off + 1, none⟩ from by simp [Addr.add]] at c1
    have HKL : Hid ((keptL f).length = n - 10) := by show _ = _; unfold keptL; rw [List.length_take, List.length_drop]; omega
    obtain ⟨m, hm⟩ : ∃ m, n = m + 10 := ⟨n - 10, by omega⟩
    have HM := Lib.hid hm
    have HE : Hid ((n : Int) - 4 = ((m + 6 : Nat) : Int)) := by show _ = _; omega
    obtain ⟨Ab, hcb, hLb⟩ := cut_mid (P := Try.prog) Try.underlying22 byte_one (some ad) n c .i64 .i64 6 ((n : Int) - 4) 6 (m + 6) rfl HE.out (by omega) (by omega)
    obtain ⟨Ac, hcc, hLc⟩ := cut_from (P := Try.prog) Try.underlying22 byte_one (some ad) n c .i64 ((n : Int) - 4) (m + 6) HE.out (by omega) hc
    rw [show m + 6 - 6 = m by omega] at hcb
    rw [show n - (m + 6) = 4 by omega] at hcc
    have hlb := hLb _ _ _ hr1
    have hlc := hLc _ _ _ (by rw [List.length_map]; exact hl) hr1
    rw [← List.map_drop, ← List.map_take] at hlb
    rw [← List.map_drop] at hlc
    have HKP : Hid ((f.drop 6).take (m + 6 - 6) = keptL f) := by show _ = _; unfold keptL; rw [hl, show n - 10 = m + 6 - 6 by omega]
    rw [HKP.out] at hlb
    have HCL : Hid ((f.drop (m + 6)).length = 4) := by show _ = _; rw [List.length_drop, hl]; omega
    have HSN : Hid (numTo (f.drop (m + 6)) 4 = sumN f) := by show _ = _; unfold sumN; rw [hl, show n - 4 = m + 6 by omega]
    have HKM : Hid ((keptL f).length = m) := by show _ = _; rw [HKL.out]; omega
    have hX := toldN_lt f
    have hx0 : decide ((toldN f : Int) < 0) = false := by simp
    have hmn : m ≤ 1000000000 := by omega
    have hmc : m ≤ c - 6 := by omega
    have n1 : (1 : Int) < (n : Int) := by omega
    have HCB := Lib.hid hcb
    have HCC := Lib.hid hcc
    have HCE : Hid (∀ b : List UInt8, crcOf b = sumN f ↔ f.drop (m + 6) = four (crcOf b)) := by
      intro b
      rw [← HSN.out]
      constructor
      · intro h; exact (num_inj _ _ HCL.out (crcOf_lt b)).1 h.symm
      · intro h; exact ((num_inj _ _ HCL.out (crcOf_lt b)).2 h).symm
    clear hLb hLc hm hx1 hl hF hcb hcc HKP HKL HSN hr
    generalize f.drop (m + 6) = tl at *
    generalize toldN f = x at *
    generalize sumN f = s at *
    generalize keptL f = kl at *
    by_cases hx : most < (x : Int)
    · have hq : (x : Int) > most := hx
      have HO3 : Hid (openOf f most = ([], 3)) := by show _ = _; rw [HO.out, if_pos hx]
      go_wp2_with fail
      go_ret2
      exact NO.out _ 3 hg1 HO3.out
    · have hq : ¬ ((x : Int) > most) := hx
      have hq1 : decide (most < (x : Int)) = false := by simpa using hx
      have HO4 : Hid (openOf f most = sumOf s (wereOf (pkB f) x kl)) := by show _ = _; rw [HO.out, if_neg hx]
      clear HO
      by_cases hpk : x1 = 1
      · subst hpk
        have HO5 : Hid (openOf f most = sumOf s (if (unpackOf kl x).2 = 0 ∧ (unpackOf kl x).1.length = x then some (unpackOf kl x).1 else none)) := by show _ = _; rw [HO4.out, HPK.out]; rfl
        clear HO4 HPK
        go_wp2_with (refine wpList_cut rfl 22 (.tmp 16) (some (.const (.int .i64 6))) (some (.tmp 19)) none rfl ?_ ?_ ?_; rotate_left; (· (exact HCB.out _)))
        refine (runpack_any Ab m (c - 6) kl (x : Int) w1 HKM.out hlb hmc hmn).mono ?_
        rintro e w2 ⟨l2, er, ln, c2, nn, A2, HU, HLn, rfl, hc2, hL2, hfar, hg2⟩
        have hb2 := Has.new w2 56 [.slice none 0 0, .int .i64 0, .int .i64 0]
        have hga := grows_alloc w2 (.cells #[.slice none 0 0, .int .i64 0, .int .i64 0] 56)
        rw [HU.out] at HO5
        by_cases her : er = 0
        · subst her
          have HO6 : Hid (openOf f most = sumOf s (if l2.length = x then some l2 else none)) := by show _ = _; rw [HO5.out]; simp
          clear HO5
          by_cases hlx : ln = x
          · subst hlx
            have HO7 : Hid (openOf f most = if crcOf l2 = s then (l2, 0) else ([], 7)) := by show _ = _; rw [HO6.out, if_pos HLn.out]; rfl
            go_wp2_with (refine wpList_storev rfl 56 (.tmp 8) (.tmp 27) rfl w2.heap.size [.slice none 0 0, .int .i64 0, .int .i64 0] [.slice A2 ln c2, iv nn, iv 0] 3 rfl rfl hb2 rfl rfl u_size (by simp [Value.oneCell']) ?_; intro w3 hb3 hbel3; have hg3 := hbel3 w2.heap.size w2 (Nat.le_refl _) hga; have q0 := hb3.cell (k := 0) rfl; have q2 := hb3.cell (k := 2) rfl)
            have hlc3 := hlc.later (Grows.trans hg2 hg3)
            have hL3 := hL2.later hg3
            have hg03 := Grows.trans hg1 (Grows.trans hg2 hg3)
            clear hlc hL2 hb2 hb3 hga hbel3 hg3 hg2 q0 q2 c1 hr1 hg1 hlb HO6
            refine wp_region_ord 10 [(0, true), (3, true), (4, true), (5, true), (6, true), (7, true), (8, true), (1, false), (2, true), (9, true)] (by kernel_rfl) (by kernel_rfl) ?_
            have hgd : Grows w3 w3.drew := (Grows.refl w3).drew
            have hLd := hL3.later hgd
            have hcd := hlc3.later hgd
            have hgwd := Grows.trans hg03 hgd
            have hO := Grows.refl w3.drew
            have hct := HCC.out
            have hwr : IntKind.i64.wrap ((n : Int) - 4) = (n : Int) - 4 := by unfold IntKind.wrap; simp [IntKind.signed, IntKind.bits]; omega
            have RS : ∀ u : World, Lies u u.heap.size A2 (l2.map bv) → Calls Try.prog 31 #[.slice A2 ln c2] u fun e w' => ∃ A' c', e = .returned (.slice A' 4 c') ∧ 4 ≤ c' ∧ Lies w' w'.heap.size A' ((four (crcOf l2)).map bv) ∧ Grows u w' := fun u hu => rsum_any A2 ln c2 l2 u HLn.out hu (by omega)
            have RS := Lib.hid RS
            have HCE1 := Lib.hid (HCE.out l2)
            obtain ⟨fc, hfc⟩ : ∃ fc, four (crcOf l2) = fc := ⟨_, rfl⟩
            rw [hfc] at RS HCE1
            have HFC : Hid (fc.length = 4) := by show _ = _; rw [← hfc]; exact four_len _
            clear hgd hL3 hlc3 hfc HCE
            generalize w3.drew = wd at *
            have cv2 : ∀ u, Grows wd u → (convert 22 9 (.slice Ac 4 (c - (m + 6)))).run Try.prog u = .ok (.string ⟨tl.toArray⟩) u := fun u h =>
              run_string_of u 22 5 Try.underlying22 Try.underlying5 9 Try.underlying9 _ Ac 4 (c - (m + 6)) tl HCL.out (hcd.below h)
            repeat (first | (refine ord_cut hO _ ?_ (by simp only [List.getElem?_cons_succ, List.getElem?_cons_zero]; rfl) (by rfl) 22 (.tmp 40) (some (.tmp 43)) none none (by rfl) ?_ ?_; rotate_left; (· (exact hct)); try simp only [Act.put, List.setIfInBounds_toArray, List.set_cons_zero, List.set_cons_succ]) | (refine ord_take hO _ ?_ (by simp only [List.getElem?_cons_succ, List.getElem?_cons_zero]; rfl) (by rfl) ?_ ?_; rotate_left; (· (intro u hu0 hu; (try go_simp); (try with_reducible rfl))); try simp only [Act.put, List.setIfInBounds_toArray, List.set_cons_zero, List.set_cons_succ]) | (refine ord_skip _ (by simp only [List.getElem?_cons_succ, List.getElem?_cons_zero]; rfl) (by rfl) ?_; try simp only [Act.put, List.setIfInBounds_toArray, List.set_cons_zero, List.set_cons_succ]))
            (refine ord_move _ (by simp only [List.getElem?_cons_succ, List.getElem?_cons_zero]; rfl) (by rfl) (fun u hu K hK => ?_); go_simp)
            refine (RS.out u (hLd.later hu)).mono ?_
            rintro e w5 ⟨A5, c5, rfl, hc5, hL5, hg5⟩
            refine hK.out _ _ hg5 ?_
            clear hK K
            have hgu := Grows.trans hu hg5
            have hLd := hLd.later hgu
            have hcd := hcd.later hgu
            have hgwd := Grows.trans hgwd hgu
            have hO := Grows.refl w5
            clear hu hgu hg5 RS cv2
            have cv1 : ∀ u, Grows w5 u → (convert 22 9 (.slice A5 4 c5)).run Try.prog u = .ok (.string ⟨fc.toArray⟩) u := fun u h =>
              run_string_of u 22 5 Try.underlying22 Try.underlying5 9 Try.underlying9 _ A5 4 c5 fc HFC.out (hL5.below h)
            repeat (first | (refine ord_cut hO _ ?_ (by simp only [List.getElem?_cons_succ, List.getElem?_cons_zero]; rfl) (by rfl) 22 (.tmp 40) (some (.tmp 43)) none none (by rfl) ?_ ?_; rotate_left; (· (exact hct)); try simp only [Act.put, List.setIfInBounds_toArray, List.set_cons_zero, List.set_cons_succ]) | (refine ord_take hO _ ?_ (by simp only [List.getElem?_cons_succ, List.getElem?_cons_zero]; rfl) (by rfl) ?_ ?_; rotate_left; (· (intro u hu0 hu; (try go_simp); (try with_reducible rfl))); try simp only [Act.put, List.setIfInBounds_toArray, List.set_cons_zero, List.set_cons_succ]) | (refine ord_skip _ (by simp only [List.getElem?_cons_succ, List.getElem?_cons_zero]; rfl) (by rfl) ?_; try simp only [Act.put, List.setIfInBounds_toArray, List.set_cons_zero, List.set_cons_succ]))
            (refine ord_done (fun u hu => ?_); simp only [List.drop_succ_cons, List.drop_zero])
            have hLf := hLd.later hu
            have hgf := Grows.trans hgwd hu
            clear hO hu cv1 hct hcd hL5 HCB HCC
            obtain ⟨t, ht⟩ : ∃ t, (!fc == tl) = t := ⟨_, rfl⟩
            rw [ht]
            cases t with
            | false =>
              have hft : fc = tl := by simpa using ht
              have HO8 : Hid (openOf f most = (l2, 0)) := by show _ = _; rw [HO7.out, if_pos (HCE1.out.2 hft.symm)]
              clear ht hft
              refine NoPanic.normal ?_
              go_wp2_with fail
              go_ret2
              exact ⟨l2, 0, ln, c2, A2, HO8, HLn, rfl, hLf, hgf⟩
            | true =>
              have hft : ¬ fc = tl := by simpa using ht
              have HO8 : Hid (openOf f most = ([], 7)) := by show _ = _; rw [HO7.out, if_neg (fun h => hft (HCE1.out.1 h).symm)]
              clear ht hft
              refine NoPanic.normal ?_
              go_wp2_with fail
              go_ret2
              exact NO.out _ 7 hgf HO8.out
          · have hq3 : ((ln : Int) != (x : Int)) = true := by simp; omega
            have hq4 : ¬ ((ln : Int) = (x : Int)) := by omega
            have HO7 : Hid (openOf f most = ([], 2)) := by show _ = _; rw [HO6.out, if_neg (by rw [HLn.out]; exact hlx)]; rfl
            go_wp2_with (refine wpList_storev rfl 56 (.tmp 8) (.tmp 27) rfl w2.heap.size [.slice none 0 0, .int .i64 0, .int .i64 0] [.slice A2 ln c2, iv nn, iv 0] 3 rfl rfl hb2 rfl rfl u_size (by simp [Value.oneCell']) ?_; intro w3 hb3 hbel3; have hg3 := hbel3 w2.heap.size w2 (Nat.le_refl _) hga; have q0 := hb3.cell (k := 0) rfl; have q2 := hb3.cell (k := 2) rfl)
            go_ret2
            exact NO.out _ 2 (Grows.trans hg1 (Grows.trans hg2 hg3)) HO7.out
        · have hq3 : ((er : Int) != 0) = true := by simp; omega
          have hq4 : ¬ ((er : Int) = 0) := by omega
          have HO7 : Hid (openOf f most = ([], 2)) := by show _ = _; rw [HO5.out, if_neg (by simp [her])]; rfl
          go_wp2_with (refine wpList_storev rfl 56 (.tmp 8) (.tmp 27) rfl w2.heap.size [.slice none 0 0, .int .i64 0, .int .i64 0] [.slice A2 ln c2, iv nn, iv er] 3 rfl rfl hb2 rfl rfl u_size (by simp [Value.oneCell']) ?_; intro w3 hb3 hbel3; have hg3 := hbel3 w2.heap.size w2 (Nat.le_refl _) hga; have q0 := hb3.cell (k := 0) rfl; have q2 := hb3.cell (k := 2) rfl)
          go_ret2
          exact NO.out _ 2 (Grows.trans hg1 (Grows.trans hg2 hg3)) HO7.out
      · have hq3 : ((x1.toNat : Int) == 1) = false := by simp; intro h; exact hpk (UInt8.toNat_inj.1 (by simp; omega))
        have hq4 : ¬ ((x1.toNat : Int) = 1) := by simpa using hq3
        have HO6 : Hid (openOf f most = sumOf s (if kl.length = x then some kl else none)) := by
          show _ = _
          rw [HO4.out, HPK.out, show (x1 == 1) = false by simpa using hpk]
          rfl
        clear HO4 HPK
        by_cases hlx : m = x
        · subst hlx
          have HO7 : Hid (openOf f most = if crcOf kl = s then (kl, 0) else ([], 7)) := by show _ = _; rw [HO6.out, if_pos HKM.out]; rfl
          go_wp2_with (refine wpList_cut rfl 22 (.tmp 16) (some (.const (.int .i64 6))) (some (.tmp 19)) none rfl ?_ ?_ ?_; rotate_left; (· (exact HCB.out _)))
          clear c1 hr1 HO6
          refine wp_region_ord 10 [(0, true), (3, true), (4, true), (5, true), (6, true), (7, true), (8, true), (1, false), (2, true), (9, true)] (by kernel_rfl) (by kernel_rfl) ?_
          have hgd : Grows w1 w1.drew := (Grows.refl w1).drew
          have hLd := hlb.later hgd
          have hcd := hlc.later hgd
          have hgwd := Grows.trans hg1 hgd
          have hO := Grows.refl w1.drew
          have hct := HCC.out
          have hwr : IntKind.i64.wrap ((n : Int) - 4) = (n : Int) - 4 := by unfold IntKind.wrap; simp [IntKind.signed, IntKind.bits]; omega
          have RS : ∀ u : World, Lies u u.heap.size Ab (kl.map bv) → Calls Try.prog 31 #[.slice Ab m (c - 6)] u fun e w' => ∃ A' c', e = .returned (.slice A' 4 c') ∧ 4 ≤ c' ∧ Lies w' w'.heap.size A' ((four (crcOf kl)).map bv) ∧ Grows u w' := fun u hu => rsum_any Ab m (c - 6) kl u HKM.out hu (by omega)
          have RS := Lib.hid RS
          have HCE1 := Lib.hid (HCE.out kl)
          obtain ⟨fc, hfc⟩ : ∃ fc, four (crcOf kl) = fc := ⟨_, rfl⟩
          rw [hfc] at RS HCE1
          have HFC : Hid (fc.length = 4) := by show _ = _; rw [← hfc]; exact four_len _
          clear hgd hlb hlc hfc HCE
          generalize w1.drew = wd at *
          have cv2 : ∀ u, Grows wd u → (convert 22 9 (.slice Ac 4 (c - (m + 6)))).run Try.prog u = .ok (.string ⟨tl.toArray⟩) u := fun u h =>
            run_string_of u 22 5 Try.underlying22 Try.underlying5 9 Try.underlying9 _ Ac 4 (c - (m + 6)) tl HCL.out (hcd.below h)
          repeat (first | (refine ord_cut hO _ ?_ (by simp only [List.getElem?_cons_succ, List.getElem?_cons_zero]; rfl) (by rfl) 22 (.tmp 40) (some (.tmp 43)) none none (by rfl) ?_ ?_; rotate_left; (· (exact hct)); try simp only [Act.put, List.setIfInBounds_toArray, List.set_cons_zero, List.set_cons_succ]) | (refine ord_take hO _ ?_ (by simp only [List.getElem?_cons_succ, List.getElem?_cons_zero]; rfl) (by rfl) ?_ ?_; rotate_left; (· (intro u hu0 hu; (try go_simp); (try with_reducible rfl))); try simp only [Act.put, List.setIfInBounds_toArray, List.set_cons_zero, List.set_cons_succ]) | (refine ord_skip _ (by simp only [List.getElem?_cons_succ, List.getElem?_cons_zero]; rfl) (by rfl) ?_; try simp only [Act.put, List.setIfInBounds_toArray, List.set_cons_zero, List.set_cons_succ]))
          (refine ord_move _ (by simp only [List.getElem?_cons_succ, List.getElem?_cons_zero]; rfl) (by rfl) (fun u hu K hK => ?_); go_simp)
          refine (RS.out u (hLd.later hu)).mono ?_
          rintro e w5 ⟨A5, c5, rfl, hc5, hL5, hg5⟩
          refine hK.out _ _ hg5 ?_
          clear hK K
          have hgu := Grows.trans hu hg5
          have hLd := hLd.later hgu
          have hcd := hcd.later hgu
          have hgwd := Grows.trans hgwd hgu
          have hO := Grows.refl w5
          clear hu hgu hg5 RS cv2
          have cv1 : ∀ u, Grows w5 u → (convert 22 9 (.slice A5 4 c5)).run Try.prog u = .ok (.string ⟨fc.toArray⟩) u := fun u h =>
            run_string_of u 22 5 Try.underlying22 Try.underlying5 9 Try.underlying9 _ A5 4 c5 fc HFC.out (hL5.below h)
          repeat (first | (refine ord_cut hO _ ?_ (by simp only [List.getElem?_cons_succ, List.getElem?_cons_zero]; rfl) (by rfl) 22 (.tmp 40) (some (.tmp 43)) none none (by rfl) ?_ ?_; rotate_left; (· (exact hct)); try simp only [Act.put, List.setIfInBounds_toArray, List.set_cons_zero, List.set_cons_succ]) | (refine ord_take hO _ ?_ (by simp only [List.getElem?_cons_succ, List.getElem?_cons_zero]; rfl) (by rfl) ?_ ?_; rotate_left; (· (intro u hu0 hu; (try go_simp); (try with_reducible rfl))); try simp only [Act.put, List.setIfInBounds_toArray, List.set_cons_zero, List.set_cons_succ]) | (refine ord_skip _ (by simp only [List.getElem?_cons_succ, List.getElem?_cons_zero]; rfl) (by rfl) ?_; try simp only [Act.put, List.setIfInBounds_toArray, List.set_cons_zero, List.set_cons_succ]))
          (refine ord_done (fun u hu => ?_); simp only [List.drop_succ_cons, List.drop_zero])
          have hLf := hLd.later hu
          have hgf := Grows.trans hgwd hu
          clear hO hu cv1 hct hcd hL5 HCB HCC
          obtain ⟨t, ht⟩ : ∃ t, (!fc == tl) = t := ⟨_, rfl⟩
          rw [ht]
          cases t with
          | false =>
            have hft : fc = tl := by simpa using ht
            have HO8 : Hid (openOf f most = (kl, 0)) := by show _ = _; rw [HO7.out, if_pos (HCE1.out.2 hft.symm)]
            clear ht hft
            refine NoPanic.normal ?_
            go_wp2_with fail
            go_ret2
            exact ⟨kl, 0, m, (c - 6), Ab, HO8, HKM, rfl, hLf, hgf⟩
          | true =>
            have hft : ¬ fc = tl := by simpa using ht
            have HO8 : Hid (openOf f most = ([], 7)) := by show _ = _; rw [HO7.out, if_neg (fun h => hft (HCE1.out.1 h).symm)]
            clear ht hft
            refine NoPanic.normal ?_
            go_wp2_with fail
            go_ret2
            exact NO.out _ 7 hgf HO8.out
        · have hq5 : ((m : Int) != (x : Int)) = true := by simp; omega
          have hq6 : ¬ ((m : Int) = (x : Int)) := by omega
          have HO7 : Hid (openOf f most = ([], 2)) := by show _ = _; rw [HO6.out, if_neg (by rw [HKM.out]; exact hlx)]; rfl
          go_wp2_with (refine wpList_cut rfl 22 (.tmp 16) (some (.const (.int .i64 6))) (some (.tmp 19)) none rfl ?_ ?_ ?_; rotate_left; (· (exact HCB.out _)))
          go_ret2
          exact NO.out _ 2 hg1 HO7.out
  · have hF' : formB f = false := by simpa using hF
    rw [rlen_none hF']
    have HO2 : Hid (openOf f most = ([], 2)) := by show _ = _; unfold openOf; rw [if_pos hF']
    go_wp2_with fail
    go_ret2
    exact NO.out _ 2 hg1 HO2.out
end Go.Proofs.Ythnjbmaiebiehaa
