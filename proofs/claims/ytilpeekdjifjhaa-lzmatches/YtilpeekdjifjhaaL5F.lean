/-
  The walk of LzMatches.
-/
import Derived.Test.YtilpeekdjifjhaaL5C
import Derived.Test.YtilpeekdjifjhaaL5E
namespace Go.Proofs.Ytilpeekdjifjhaa
open Go.RowKit
set_option linter.unusedVariables false

/-- Which of two. -/
theorem two_rows {w : World} {b : Nat} {A1 A2 : Option Addr} {n1 n2 c1 c2 M : Nat} {l1 l2 : List UInt8} (hb : Has w b [.slice A1 n1 c1, .slice A2 n2 c2]) (h1 : Hid (l1.length = n1)) (h2 : Hid (l2.length = n2)) (g1 : Lies w w.heap.size A1 (l1.map bv)) (g2 : Lies w w.heap.size A2 (l2.map bv))
    (b1 : n1 ≤ c1) (b2 : n2 ≤ c2) (m1 : n1 ≤ M) (m2 : n2 ≤ M) (k : Nat) (hk : k < 2) : ∃ (A : Option Addr) (n c : Nat) (l : List UInt8), Hid (l.length = n) ∧ n ≤ c ∧ n ≤ M ∧ Lies w w.heap.size A (l.map bv) ∧ w.cell? ⟨b, k, none⟩ = some (.slice A n c) := by
  match k, hk with
  | 0, _ => exact ⟨A1, n1, c1, l1, h1, b1, m1, g1, hb.cell rfl⟩
  | 1, _ => exact ⟨A2, n2, c2, l2, h2, b2, m2, g2, hb.cell rfl⟩

set_option maxRecDepth 20000 in
set_option maxHeartbeats 2000000 in
theorem lzmatches_walk (A : Option Addr) (n c : Nat) (bs : List UInt8) (A' : Option Addr) (n' c' : Nat) (zs : List Int) (p : Int) (w : World) (hl : bs.length = n) (hr : Lies w w.heap.size A (bs.map bv)) (hc : n ≤ c) (hm : c ≤ maxLen)
    (hl' : zs.length = n') (hr' : Lies w w.heap.size A' (zs.map zv)) (hc' : n' ≤ maxLen) (hz : ∀ z ∈ zs, -9223372036854775808 ≤ z ∧ z ≤ 9223372036854775807) :
    Calls Try.prog 3 #[.slice A n c, .slice A' n' c', .int .i64 p] w fun e w' => e = .returned (.bool true) ∧ Grows w w' := by
  go_enter Try.func3, Try.ntmps3
  go_wp2_with fail
  refine (few_bytes A n c 40 bs w hl hr hc (by omega) hm).mono ?_
  rintro e w1 ⟨A1, c1, rfl, hc1, hown1, hL1, hg1⟩
  have HL1 : Hid ((bs.take 40).length = min n 40) := by show _ = _; rw [List.length_take, hl, Nat.min_comm]
  have hn1 : min n 40 ≤ 400 := by omega
  clear hown1 hr hl
  generalize min n 40 = n1 at *
  generalize bs.take 40 = l1 at *
  go_wp2_with fail
  refine (made_any A' n' c' zs w1 hl' (hr'.later hg1) hc' hz).mono ?_
  rintro e w2 ⟨l2, m2, c2, A2, HL2, hm2, rfl, hc2, hown2, hg2⟩
  have hL2 := Lies.of_own hown2
  have hcm2 : c2 ≤ maxLen := by
    rcases hown2.2 with ⟨e, _⟩ | ⟨g, cap, cur, e, _, _, _, h4, _⟩
    · injection e with _ _ e; omega
    · injection e with _ _ e; subst e; first | exact h4 | omega
  have hL1' := hL1.later hg2
  have hg12 := Grows.trans hg1 hg2
  clear hown2 hL1 hg1 hg2 hr' hl' hz
  go_wp2_with fail
  refine (few_bytes A2 m2 c2 120 l2 w2 HL2.out hL2 hc2 (by omega) hcm2).mono ?_
  rintro e w3 ⟨A3, c3, rfl, hc3, hown3, hL3, hg3⟩
  have HL3 : Hid ((l2.take 120).length = min m2 120) := by show _ = _; rw [List.length_take, HL2.out, Nat.min_comm]
  have hn3 : min m2 120 ≤ 400 := by omega
  have hL13 := hL1'.later hg3
  have hg03 := Grows.trans hg12 hg3
  clear hown3 hL2 HL2 hL1' hg12 hg3
  generalize min m2 120 = n3 at *
  generalize l2.take 120 = l3 at *
  have hbox := Has.new w3 22 [.slice A1 n1 c1, .slice A3 n3 c3]
  have hga := grows_alloc w3 (.cells #[.slice A1 n1 c1, .slice A3 n3 c3] 22)
  have hg04 := Grows.trans hg03 hga
  have hL14 := hL13.later hga
  have hL34 := hL3.later hga
  have hbs : w3.heap.size = w3.heap.size := rfl
  go_wp2_with fail
  change Code.wp _ _ _ _ (w3.alloc (.cells #[.slice A1 n1 c1, .slice A3 n3 c3] 22))
  clear hga hbs hL13 hL3 hg03
  generalize w3.alloc (.cells #[.slice A1 n1 c1, .slice A3 n3 c3] 22) = w4 at *
  generalize w3.heap.size = b at *
  go_loopw [8, 9, 10, 11, 12, 13] (fun q _ _ _ _ _ wr => ∃ k : Nat, k ≤ 2 ∧ q = iv k ∧ Grows w4 wr) (fun q _ _ _ _ _ _ => 2 - (intOf q).toNat)
  case atStart => exact ⟨0, by omega, rfl, Grows.refl _⟩
  case round =>
    obtain ⟨k, hk, rfl, hgr⟩ := hrel
    by_cases hk2 : k < 2
    · obtain ⟨Ak, nk, ck, lk, HLk, hck, hmk, hLk, hcell⟩ := two_rows (M := 400) (hbox.later hgr) HL1 HL3 (hL14.later hgr) (hL34.later hgr) hc1 hc3 hn1 hn3 k hk2
      have hk2' : (k : Int) < 2 := by omega
      go_wp2_with fail
      go_loopw [9, 10, 11, 12, 13] (fun q _ _ _ _ wv => ∃ z : Int, -1 ≤ z ∧ z ≤ (nk : Int) + 2 ∧ q = .int .i64 z ∧ Grows wr wv) (fun q _ _ _ _ _ => ((nk : Int) + 2 - intOf q).toNat)
      case atStart => exact ⟨-1, by omega, by omega, rfl, Grows.refl _⟩
      case round =>
        obtain ⟨z, hz1, hz2, rfl, hgv⟩ := hrel
        have hcv := hcell_later hcell hgv
        have hLv := hLk.later hgv
        by_cases hzn : z ≤ (nk : Int) + 1
        · obtain ⟨pp, hpp⟩ : ∃ pp, pp = if (nk : Int) < z then p else z := ⟨_, rfl⟩
          have hmatch := match_any Ak nk ck pp lk wr HLk.out hLv (by omega)
          have hrmatch : ∀ u, Grows wr u → Calls Try.prog 12 #[.slice Ak nk ck, .int .i64 pp] u fun e w' => e = .returned (mv (matchAt lk pp)) ∧ Grows u w' := fun u hu => rmatch_any Ak nk ck pp lk u HLk.out (hLv.later hu) (by omega)
          obtain ⟨x, y, hxy⟩ : ∃ x y, matchAt lk pp = (x, y) := ⟨_, _, rfl⟩
          rw [hxy] at hmatch
          simp only [hxy] at hrmatch
          have HRM := Lib.hid hrmatch
          have HMA := Lib.hid hmatch
          clear hxy hmatch hrmatch
          by_cases hnz : (nk : Int) < z
          · rw [if_pos hnz] at hpp
            subst hpp
            go_wp2_with fail
            refine HMA.out.mono ?_
            rintro e w5 ⟨rfl, hg5⟩
            have hc5 := hcell_later hcv hg5
            go_wp2_with fail
            refine (HRM.out _ hg5).mono ?_
            rintro e w6 ⟨rfl, hg6⟩
            go_wp2_with fail
            go_roundw
            case rel => exact ⟨z + 1, by omega, by omega, by go_num, Grows.trans hgv (Grows.trans hg5 (Grows.trans hg6 (grows_alloc _ _)))⟩
            case measure => simp [intOf]; omega
          · rw [if_neg hnz] at hpp
            subst hpp
            go_wp2_with fail
            refine HMA.out.mono ?_
            rintro e w5 ⟨rfl, hg5⟩
            have hc5 := hcell_later hcv hg5
            go_wp2_with fail
            refine (HRM.out _ hg5).mono ?_
            rintro e w6 ⟨rfl, hg6⟩
            go_wp2_with fail
            go_roundw
            case rel => exact ⟨pp + 1, by omega, by omega, by go_num, Grows.trans hgv (Grows.trans hg5 (Grows.trans hg6 (grows_alloc _ _)))⟩
            case measure => simp [intOf]; omega
        · go_wp2_with fail
          go_roundw
          case rel => exact ⟨k + 1, by omega, by go_num, Grows.trans hgr hgv⟩
          case measure => simp [intOf]; omega
    · have hk2' : ¬ ((k : Int) < 2) := by omega
      go_wp2_with fail
      refine (lives5_any _).mono ?_
      rintro e w9 ⟨rfl, hg9⟩
      go_wp2_with fail
      go_ret
      exact ⟨rfl, Grows.trans hg04 (Grows.trans hgr hg9)⟩
end Go.Proofs.Ytilpeekdjifjhaa
