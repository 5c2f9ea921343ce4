/-
  Contract of the reference's Fill: so many bytes, whatever bytes they are made of.
-/
import Derived.Test.YtjdgdpofnpajmaaRFew
import Derived.Test.YtjdgdpofnpajmaaSched
namespace Go.Proofs.Ytjdgdpofnpajmaa
open Go.RowKit
set_option linter.unusedVariables false

set_option maxHeartbeats 1000000 in
theorem fill_own (A : Option Addr) (n c m : Nat) (bs : List UInt8) (w : World) (hl : bs.length = n) (hr : Lies w w.heap.size A (bs.map bv)) (hn : n ≤ maxLen) (hm : m ≤ 1000000) :
    Calls Try.prog 8 #[.slice A n c, .int .i64 (m : Int)] w fun e w' => ∃ (l : List UInt8) (A' : Option Addr) (c' : Nat), l.length = m ∧ e = .returned (.slice A' m c') ∧ m ≤ c' ∧ c' ≤ maxLen ∧ w'.ownsRow w.heap.size 5 1 (.slice A' m c') m (l.map bv) ∧ Below w.heap.size w w' := by
  unfold maxLen at hn
  obtain ⟨i0, hi0, hz0, hz1, hz2⟩ := info_parts byte_info
  have HL := Lib.hid hl
  clear hl
  go_enter Try.func8, Try.ntmps8
  go_wp2
  go_loopw [5, 6] (fun v i wr => ∃ (k : Nat) (l : List UInt8), k ≤ m ∧ l.length = k ∧ i = .int .i64 k ∧ wr.ownsRow w.heap.size 5 1 v k (l.map bv) ∧ Grows w wr) (fun _ i _ => m - (intOf i).toNat)
  case atStart => exact ⟨0, [], Nat.zero_le _, rfl, rfl, World.ownsRow_nil _ _ _ _, Grows.refl _⟩
  case round =>
    obtain ⟨k, l, hk, hlk, rfl, hown, hgr⟩ := hrel
    have HK := Lib.hid hlk
    clear hlk
    by_cases hlt : k < m
    · by_cases hn0 : 0 < n
      · have hnz : ((n : Int) == 0) = false := by simp; omega
        have hkn : k % n < n := Nat.mod_lt _ hn0
        obtain ⟨x, hx⟩ : ∃ x, bs[k % n]? = some x := ⟨_, List.getElem?_eq_getElem (by rw [HL.out]; exact hkn)⟩
        obtain ⟨ad, rfl, _, cx⟩ := (hr.later hgr).at_ (j := k % n) (u := bv x) (by rw [List.getElem?_map, hx]; rfl)
        have hnew := Lies.new wr 5 [bv x]
        clear hx
        have r0 : (0 : Int) ≤ (k : Int) % (n : Int) := Int.emod_nonneg _ (by omega)
        have r1 : (k : Int) % (n : Int) < (n : Int) := Int.emod_lt_of_pos _ (by omega)
        have r2 : ((k : Int) % (n : Int)).toNat = k % n := by omega
        go_wp2_with (at_builtin; refine wpList_append_src _ rfl (.tmp 15) (.tmp 23) _ rfl w.heap.size 5 i0 _ 1 Try.underlying22 hi0 hz0 hz1 hz2 rfl u5 k _ rfl (hown.alloc _) _ _ 1 1 [bv x] rfl rfl hnew (by simp [Value.oneCell']) (by unfold maxLen; omega) (by omega) (by rw [World.size_alloc]; have := hgr.size; omega) ?_; intro v' w' hown' hg' hat')
        have hb2 : Below w.heap.size wr w' := ((Below.refl _ wr).alloc hgr.size _).grown hg' (by rw [World.size_alloc]; have := hgr.size; omega) (own_ge hown)
        rw [show [bv x] = [x].map bv from rfl, ← List.map_append] at hown'
        go_roundw
        case rel => exact ⟨k + 1, l ++ [x], by omega, by simp [HK.out], by go_num, hown', Below.trans hgr hb2⟩
        case measure => simp [intOf]; omega
      · obtain rfl : n = 0 := by omega
        have hnew := Lies.new wr 5 [bv 0]
        go_wp2_with (at_builtin; refine wpList_append_src _ rfl (.tmp 25) (.tmp 26) _ rfl w.heap.size 5 i0 _ 1 Try.underlying22 hi0 hz0 hz1 hz2 rfl u5 k _ rfl (hown.alloc _) _ _ 1 1 [bv 0] rfl rfl hnew (by simp [Value.oneCell']) (by unfold maxLen; omega) (by omega) (by rw [World.size_alloc]; have := hgr.size; omega) ?_; intro v' w' hown' hg' hat')
        have hb2 : Below w.heap.size wr w' := ((Below.refl _ wr).alloc hgr.size _).grown hg' (by rw [World.size_alloc]; have := hgr.size; omega) (own_ge hown)
        rw [show [bv 0] = [(0 : UInt8)].map bv from rfl, ← List.map_append] at hown'
        go_roundw
        case rel => exact ⟨k + 1, l ++ [0], by omega, by simp [HK.out], by go_num, hown', Below.trans hgr hb2⟩
        case measure => simp [intOf]; omega
    · obtain rfl : k = m := by omega
      have hown0 := hown
      obtain ⟨A', c', rfl, hc⟩ := own_form hown
      have hcm : c' ≤ maxLen := by
        rcases hown.2 with ⟨e, _⟩ | ⟨g, cap, cur, e, _, _, _, h4, _⟩
        · injection e with _ _ e; omega
        · injection e with _ _ e; subst e; first | exact h4 | omega
      go_wp2
      go_ret
      exact ⟨l, A', c', HK.out, rfl, hc, hcm, hown, hgr⟩

theorem fill_any (A : Option Addr) (n c m : Nat) (bs : List UInt8) (w : World) (hl : bs.length = n) (hr : Lies w w.heap.size A (bs.map bv)) (hn : n ≤ maxLen) (hm : m ≤ 1000000) :
    Calls Try.prog 8 #[.slice A n c, .int .i64 (m : Int)] w fun e w' => ∃ (l : List UInt8) (A' : Option Addr) (c' : Nat), l.length = m ∧ e = .returned (.slice A' m c') ∧ m ≤ c' ∧ c' ≤ maxLen ∧ Lies w' w'.heap.size A' (l.map bv) ∧ Below w.heap.size w w' := by
  refine (fill_own A n c m bs w hl hr hn hm).mono ?_
  rintro e w' ⟨l, A', c', h1, h2, h3, h4, h5, h6⟩
  exact ⟨l, A', c', h1, h2, h3, h4, Lies.of_own h5, h6⟩
end Go.Proofs.Ytjdgdpofnpajmaa
