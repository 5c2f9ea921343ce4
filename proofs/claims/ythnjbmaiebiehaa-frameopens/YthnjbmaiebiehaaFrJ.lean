/-
  Contract of the reference's Length of layer 6.
-/
import Derived.Test.YthnjbmaiebiehaaFrH
import Derived.BigQuiet
namespace Go.Proofs.Ythnjbmaiebiehaa
open Go.RowKit
set_option linter.unusedVariables false

/-- What the reference's Length answers. -/
def rlenInt (f : List UInt8) : Int := if formB f = true then (toldN f : Int) else -1

theorem rlen_some {f : List UInt8} (h : formB f = true) : rlenInt f = (toldN f : Int) := by unfold rlenInt; rw [if_pos h]
theorem rlen_none {f : List UInt8} (h : formB f = false) : rlenInt f = -1 := by unfold rlenInt; rw [if_neg (by rw [h]; exact Bool.noConfusion)]

set_option maxRecDepth 20000 in
set_option maxHeartbeats 4000000 in
theorem rlength_any (A : Option Addr) (n c : Nat) (f : List UInt8) (w : World) (hl : f.length = n) (hr : Lies w w.heap.size A (f.map bv)) (hc : n ≤ c) (hn : n ≤ 1000000000) :
    Calls Try.prog 18 #[.slice A n c] w fun e w' => e = .returned (.int .i64 (rlenInt f)) ∧ Grows w w' := by
  go_enter Try.func18, Try.ntmps18
  by_cases h10 : n < 10
  · have h10' : (n : Int) < 10 := by omega
    have HF : Hid (rlenInt f = -1) := by show _ = _; apply rlen_none; unfold formB; rw [hl]; simp; omega
    go_wp2
    go_ret
    exact ⟨by rw [HF.out]; rfl, Grows.refl _⟩
  · have h10' : ¬ ((n : Int) < 10) := by omega
    obtain ⟨x0, hx0⟩ : ∃ x, f[0]? = some x := ⟨_, List.getElem?_eq_getElem (by omega)⟩
    obtain ⟨x1, hx1⟩ : ∃ x, f[1]? = some x := ⟨_, List.getElem?_eq_getElem (by omega)⟩
    obtain ⟨x2, hx2⟩ : ∃ x, f[2]? = some x := ⟨_, List.getElem?_eq_getElem (by omega)⟩
    obtain ⟨x3, hx3⟩ : ∃ x, f[3]? = some x := ⟨_, List.getElem?_eq_getElem (by omega)⟩
    obtain ⟨x4, hx4⟩ : ∃ x, f[4]? = some x := ⟨_, List.getElem?_eq_getElem (by omega)⟩
    obtain ⟨x5, hx5⟩ : ∃ x, f[5]? = some x := ⟨_, List.getElem?_eq_getElem (by omega)⟩
    have HF : Hid (formB f = (x0 == 76 && (x1 == 0 || x1 == 1))) := by
      show _ = _
      unfold formB
      rw [hl, List.getD, List.getD, hx0, hx1, decide_eq_true (by omega)]
      simp
    have HN : Hid ((toldN f : Int) = (x2.toNat : Int) + 256 * (x3.toNat : Int) + 65536 * (x4.toNat : Int) + 16777216 * (x5.toNat : Int)) := by
      show _ = _
      unfold toldN
      have e2 : ((f.drop 2).take 4)[0]? = some x2 := by simp [hx2]
      have e3 : ((f.drop 2).take 4)[1]? = some x3 := by simp [hx3]
      have e4 : ((f.drop 2).take 4)[2]? = some x4 := by simp [hx4]
      have e5 : ((f.drop 2).take 4)[3]? = some x5 := by simp [hx5]
      simp only [numTo, List.getD, e2, e3, e4, e5, Option.getD_some]
      omega
    obtain ⟨ad, rfl, _, c0⟩ := hr.at_ (j := 0) (u := bv x0) (by rw [List.getElem?_map, hx0]; rfl)
    have c1 := hr.cells 1 (bv x1) (by rw [List.getElem?_map, hx1]; rfl)
    have c2 := hr.cells 2 (bv x2) (by rw [List.getElem?_map, hx2]; rfl)
    have c3 := hr.cells 3 (bv x3) (by rw [List.getElem?_map, hx3]; rfl)
    have c4 := hr.cells 4 (bv x4) (by rw [List.getElem?_map, hx4]; rfl)
    have c5 := hr.cells 5 (bv x5) (by rw [List.getElem?_map, hx5]; rfl)
    rw [add_zero_eq] at c0
    have pl : ∀ j, ad.add (j + 1) = ⟨ad.block, ad.off + (j + 1), none⟩ := fun j => by simp [Addr.add]
    rw [pl 0] at c1
    rw [pl 1] at c2
    rw [pl 2] at c3
    rw [pl 3] at c4
    rw [pl 4] at c5
    simp only [Nat.reduceAdd] at c1 c2 c3 c4 c5
    have b2 := x2.toNat_lt
    have b3 := x3.toNat_lt
    have b4 := x4.toNat_lt
    have b5 := x5.toNat_lt
    have n1 : (1 : Int) < (n : Int) := by omega
    have n2 : (2 : Int) < (n : Int) := by omega
    have n3 : (3 : Int) < (n : Int) := by omega
    have n4 : (4 : Int) < (n : Int) := by omega
    have n5 : (5 : Int) < (n : Int) := by omega
    clear hx0 hx1 hx2 hx3 hx4 hx5 pl hl
    by_cases h76 : x0 = 76
    · subst h76
      by_cases h01 : (x1.toNat : Int) > 1
      · have HV : Hid (rlenInt f = -1) := by
          show _ = _
          apply rlen_none
          rw [HF.out]
          have h0 : (x1 == 0) = false := by simp; rintro rfl; simp at h01
          have h1 : (x1 == 1) = false := by simp; rintro rfl; simp at h01
          rw [h0, h1]; rfl
        go_wp2
        go_ret
        exact ⟨by rw [HV.out]; rfl, Grows.refl _⟩
      · have HV : Hid (rlenInt f = (toldN f : Int)) := by
          show _ = _
          apply rlen_some
          rw [HF.out]
          have : x1.toNat = 0 ∨ x1.toNat = 1 := by omega
          rcases this with h | h
          · obtain rfl : x1 = 0 := UInt8.toNat_inj.1 h
            rfl
          · obtain rfl : x1 = 1 := UInt8.toNat_inj.1 h
            rfl
        go_wp2_with fail
        go_quiet (fail)
        go_wp2_with fail
        go_ret
        exact ⟨by rw [HV.out, HN.out]; rfl, below_draws (Grows.refl _)⟩
    · have HV : Hid (rlenInt f = -1) := by
        show _ = _
        apply rlen_none
        rw [HF.out]
        have h0 : (x0 == 76) = false := by simpa using h76
        rw [h0]; rfl
      have g0 : ((x0.toNat : Int) != 76) = true := by simp; intro h; exact h76 (UInt8.toNat_inj.1 (by simp; omega))
      have g1 : ¬ ((x0.toNat : Int) = 76) := by simpa using g0
      go_wp2
      go_ret
      exact ⟨by rw [HV.out]; rfl, Grows.refl _⟩
end Go.Proofs.Ythnjbmaiebiehaa
