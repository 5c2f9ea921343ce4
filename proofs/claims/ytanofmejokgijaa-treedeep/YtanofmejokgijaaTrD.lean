/-
  tree's nothing, kindMay; what attrsMay and kidsRise hand to all and rise.
-/
import Derived.Test.YtanofmejokgijaaTrC
namespace Go.Proofs.Ytanofmejokgijaa
open Go.RowKit
set_option linter.unusedVariables false

theorem len0 (n : Nat) : (((n : Nat) : Int) == 0) = decide (n = 0) := by rw [Bool.eq_iff_iff]; simp
set_option maxHeartbeats 1000000 in
theorem nothing_any (ad : Addr) (nk nd ck cd : Nat) (Ak Ad : Option Addr) (tg : List UInt8) (ma mi : Int) (w : World) (c11 : w.cell? ⟨ad.block, ad.off + 11, none⟩ = some (.slice Ak nk ck)) (c6 : w.cell? ⟨ad.block, ad.off + 6, none⟩ = some (.slice Ad nd cd))
    (c7 : w.cell? ⟨ad.block, ad.off + 7, none⟩ = some (tv tg)) (c8 : w.cell? ⟨ad.block, ad.off + 8, none⟩ = some (.int .i64 ma)) (c9 : w.cell? ⟨ad.block, ad.off + 9, none⟩ = some (.int .i64 mi)) :
    Calls Try.prog 100 #[.pointer (some ad)] w fun e w' => e = .returned (.bool (nothingB nk nd tg ma mi)) ∧ w' = w := by
  have e1 : ∀ t, binOp .eql t (tv tg) (.string ⟨#[]⟩) = (pure (.bool (tg == [])) : Sem Value) := fun t => run_teq (P := Try.prog) t tg []
  have k1 := len0 nk
  have k2 := len0 nd
  have k3 : (ma == 0) = decide (ma = 0) := by rw [Bool.eq_iff_iff]; simp
  have k4 : (mi == 0) = decide (mi = 0) := by rw [Bool.eq_iff_iff]; simp
  unfold nothingB
  generalize (tg == []) = b3 at *
  generalize decide (nk = 0) = b1 at *
  generalize decide (nd = 0) = b2 at *
  generalize decide (ma = 0) = b4 at *
  generalize decide (mi = 0) = b5 at *
  cases b1
  · go_enter Try.func100, Try.ntmps100
    go_wp2
    go_ret
    exact ⟨rfl, rfl⟩
  cases b2
  · go_enter Try.func100, Try.ntmps100
    go_wp2
    go_ret
    exact ⟨rfl, rfl⟩
  cases b3
  · go_enter Try.func100, Try.ntmps100
    go_wp2
    go_ret
    exact ⟨rfl, rfl⟩
  cases b4
  · go_enter Try.func100, Try.ntmps100
    go_wp2
    go_ret
    exact ⟨rfl, rfl⟩
  go_enter Try.func100, Try.ntmps100
  go_wp2
  go_ret
  exact ⟨rfl, rfl⟩

theorem ktext_any (ad : Addr) (x : List UInt8) (w : World) (c1 : w.cell? ⟨ad.block, ad.off + 1, none⟩ = some (tv x)) : Calls Try.prog 83 #[.pointer (some ad)] w fun e w' => e = .returned (tv x) ∧ Grows w w' := by
  go_enter Try.func83, Try.ntmps83
  go_wp2
  go_ret
  exact ⟨rfl, Grows.refl _⟩
theorem atext_any (ad : Addr) (x : List UInt8) (w : World) (c1 : w.cell? ad = some (tv x)) : Calls Try.prog 98 #[.pointer (some ad)] w fun e w' => e = .returned (tv x) ∧ Grows w w' := by
  go_enter Try.func98, Try.ntmps98
  go_wp2
  go_ret
  exact ⟨rfl, Grows.refl _⟩
set_option maxHeartbeats 1000000 in
theorem attr1_any (i : Int) (ad : Addr) (x y : List UInt8) (w : World) (c0 : w.cell? ad = some (tv x)) (c1 : w.cell? ⟨ad.block, ad.off + 1, none⟩ = some (tv y)) : Calls Try.prog 96 #[.int .i64 i, .pointer (some ad)] w fun e w' => e = .returned (.bool (attrB (x, y))) ∧ Grows w w' := by
  have hsz := size_mk y
  have hd : decide (y.length ≤ 24) = decide ((y.length : Int) ≤ 24) := by rw [Bool.eq_iff_iff]; simp; omega
  unfold attrB
  rw [hd]
  have hC := name_any x w
  cases hb : nameB x
  · rw [hb] at hC
    go_enter Try.func96, Try.ntmps96
    go_wp2_with fail
    refine hC.mono ?_
    rintro e w' ⟨rfl, hg⟩
    go_wp2
    go_ret
    exact ⟨rfl, hg⟩
  · rw [hb] at hC
    go_enter Try.func96, Try.ntmps96
    go_wp2_with fail
    refine hC.mono ?_
    rintro e w' ⟨rfl, hg⟩
    have c1' := hcell_later c1 hg
    go_wp2
    go_ret
    exact ⟨rfl, hg⟩
end Go.Proofs.Ytanofmejokgijaa
