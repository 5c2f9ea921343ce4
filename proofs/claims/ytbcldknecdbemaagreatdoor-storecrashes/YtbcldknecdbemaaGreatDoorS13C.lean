/-
  The walk of the law StoreCrashes.
-/
import Derived.Test.YtbcldknecdbemaaGreatDoorS13Ca
import Derived.Test.YtbcldknecdbemaaGreatDoorS13Cb
import Derived.Test.YtbcldknecdbemaaGreatDoorS13Cc
namespace Go.Proofs.YtbcldknecdbemaaGreatDoor
open Go.RowKit
set_option linter.unusedVariables false
set_option maxRecDepth 20000

theorem storecrashes_walk (A : Option Addr) (n c : Nat) (bs : Byts) (pz : Int) (Ak : Option Addr) (kl kc : Nat) (ks0 : List Bool) (w : World) (hk : Keys w) (hl : bs.length = n) (hr : Lies w w.heap.size A (bs.map bv)) (hc : n ≤ c) (hm : c ≤ maxLen) (hpz : I64' pz)
    (hkl0 : ks0.length = kl) (hkr : Lies w w.heap.size Ak (ks0.map .bool)) (hkc : kl ≤ kc) (hkm' : kc ≤ maxLen) :
    Calls Tryz.prog 5 #[.slice A n c, rv pz, .slice Ak kl kc] w fun e w' => e = .returned (.bool true) ∧ Below w.heap.size w w' := by
  have hol : (bs.take 60).length ≤ 60 := by rw [List.length_take]; omega
  have hse := seal_le (bs.take 60)
  have hlt : around pz 6 < 6 := around_lt _ (by omega)
  by_cases h3 : around pz 6 ≤ 3
  · obtain ⟨D', h1, S, h2, hS⟩ := put_few (room := 1000) (by omega) (around pz 6) h3 (by omega) (ks0.take 9) (b := bs.take 60)
    rcases hS with hS | hS
    · exact crashes_a A n c bs pz Ak kl kc ks0 w hk hl hr hc hm hpz hkl0 hkr hkc hkm' D' S h1 h2 (get_other _ S (-1) (by decide) (own1_get S hS)) (put_all S (-1) hS (by omega) (.inl (by omega)) (by omega)) h3
    · subst hS
      exact crashes_b A n c bs pz Ak kl kc ks0 w hk hl hr hc hm hpz hkl0 hkr hkc hkm' D' _ h1 h2 (get_whole (by omega) (-1) (by decide)) (put_again (-1) (by omega) (by decide)) h3
  · exact crashes_c A n c bs pz Ak kl kc ks0 w hk hl hr hc hm hpz hkl0 hkr hkc hkm' _ _ (put_all [] _ (.inl rfl) (by omega) (.inr (by omega)) (by omega)) (restart_still _ _ _ _) (get_whole (by omega) (-1) (by decide)) (put_again (-1) (by omega) (by decide)) (by omega)
end Go.Proofs.YtbcldknecdbemaaGreatDoor
