/-
  Contract of the reference's Made: some bytes, not many. The walk of LzMost.
-/
import Derived.Test.YthnjbmaiebiehaaL5A
namespace Go.Proofs.Ythnjbmaiebiehaa
open Go.RowKit
set_option linter.unusedVariables false

/-- An int, whatever it is, as a value. -/
abbrev zv (z : Int) : Value := .int .i64 z
/-- What is told of a []int that came in. -/
theorem row_ints {w : World} {a : Option Addr} {len cap : Nat} {zs : List Int}
    (h : (a = none ∧ len = 0 ∧ cap = 0 ∧ zs = []) ∨ ∃ x, a = some x ∧ len ≤ cap ∧ cap ≤ maxLen ∧ zs.length = cap ∧ (∀ i, i < zs.length → w.cell? (x.add i) = some (.int .i64 (zs.getD i 0))) ∧ ∀ n ∈ zs, (Lit.int .i64 n).wf = true) :
    ∃ l : List Int, l.length = len ∧ Lies w w.heap.size a (l.map zv) ∧ len ≤ cap ∧ cap ≤ maxLen ∧ ∀ z ∈ l, -9223372036854775808 ≤ z ∧ z ≤ 9223372036854775807 := by
  rcases h with ⟨rfl, rfl, rfl, rfl⟩ | ⟨x, rfl, hl, hm, hz, hc, hw⟩
  · exact ⟨[], rfl, Lies.empty, Nat.le_refl _, Nat.zero_le _, fun _ h => by simp at h⟩
  · refine ⟨zs.take len, by simp; omega, fun j u hu => ?_, hl, hm, fun z hz' => ?_⟩
    · rw [List.getElem?_map, List.getElem?_take] at hu
      split at hu
      · rename_i hj
        have hjz : j < zs.length := by omega
        rw [List.getElem?_eq_getElem hjz] at hu
        simp at hu
        have h1 := hc j hjz
        refine ⟨x, rfl, ?_, ?_⟩
        · have := World.block_lt_of_cell? w _ h1
          rwa [add_block] at this
        · rw [h1, ← hu]
          simp [List.getElem?_eq_getElem hjz]
      · simp at hu
    · have h2 := hw z (List.mem_of_mem_take hz')
      simp [Lit.wf, IntKind.min, IntKind.max, IntKind.signed, IntKind.bits] at h2
      omega

set_option maxRecDepth 20000 in
set_option maxHeartbeats 2000000 in
theorem made_any (A : Option Addr) (n c : Nat) (zs : List Int) (w : World) (hl : zs.length = n) (hr : Lies w w.heap.size A (zs.map zv)) (hc : n ≤ maxLen) (hz : ∀ z ∈ zs, -9223372036854775808 ≤ z ∧ z ≤ 9223372036854775807) :
    Calls Try.prog 9 #[.slice A n c] w fun e w' => ∃ (l : List UInt8) (m c' : Nat) (A' : Option Addr), Hid (l.length = m) ∧ m ≤ 360 ∧ e = .returned (.slice A' m c') ∧ m ≤ c' ∧ w'.ownsRow w.heap.size 5 1 (.slice A' m c') m (l.map bv) ∧ Grows w w' := by
  unfold maxLen at hc
  obtain ⟨i0, hi0, hz0, hz1, hz2⟩ := info_parts byte_info
  have HL := Lib.hid hl
  have HZ := Lib.hid hz
  clear hl hz
  go_enter Try.func9, Try.ntmps9
  go_wp2
  go_loopw [3, 4, 5, 6, 7, 8] (fun v q _ _ _ _ wr => ∃ (i m : Nat) (o : List UInt8), i ≤ 40 ∧ q = iv i ∧ m ≤ 360 ∧ wr.ownsRow w.heap.size 5 1 v m (o.map bv) ∧ Grows w wr) (fun _ q _ _ _ _ _ => 40 - (intOf q).toNat)
  case atStart => exact ⟨0, 0, [], by omega, rfl, by omega, World.ownsRow_nil _ _ _ _, Grows.refl _⟩
  case round =>
    obtain ⟨i, m, o, hi, rfl, hm, hown, hgr⟩ := hrel
    have hwb := hgr.size
    obtain ⟨Ab, cb, rfl, hcb⟩ := own_form hown
    have fin : ∀ A' c', wr.ownsRow w.heap.size 5 1 (.slice A' m c') m (o.map bv) → Hid (o.length = m) := fun A' c' h => by show _ = _; simpa using h.1
    have HOL := fin Ab cb hown
    clear fin
    by_cases h1 : i < n
    · by_cases h2 : i < 40
      · by_cases h3 : m < 300
        · obtain ⟨z, hzz⟩ : ∃ z, zs[i]? = some z := ⟨_, List.getElem?_eq_getElem (by rw [HL.out]; exact h1)⟩
          obtain ⟨z1, z2⟩ := HZ.out z (List.mem_of_getElem? hzz)
          obtain ⟨ad, rfl, _, cx⟩ := (hr.later hgr).at_ (j := i) (u := zv z) (by rw [List.getElem?_map, hzz]; rfl)
          clear hzz
          by_cases hc1 : (0 : Int) ≤ z
          · obtain ⟨q, hq⟩ : ∃ q : Nat, z % 4 = (q : Int) := ⟨(z % 4).toNat, by omega⟩
            have hq4 : q < 4 := by omega
            have hq' : z.tmod 4 = (q : Int) := by rw [Int.tmod_eq_emod_of_nonneg hc1]; exact hq
            obtain ⟨x, hx⟩ : ∃ x : UInt8, (97 : Int) + (q : Int) = (x.toNat : Int) := ⟨UInt8.ofNat (97 + q), by rw [UInt8.toNat_ofNat']; omega⟩
            have hx8 := x.toNat_lt
            have hnew := Lies.new wr 5 [bv x]
            go_wp2_with (at_builtin; refine wpList_append_src _ rfl (.tmp 41) (.tmp 45) _ rfl w.heap.size 5 i0 _ 1 Try.underlying22 hi0 hz0 hz1 hz2 rfl _ m _ rfl (hown.alloc _) _ _ 1 1 [bv x] rfl rfl hnew (by simp [Value.oneCell']) (by unfold maxLen; omega) (by omega) (by rw [World.size_alloc]; omega) ?_; intro v' w' hown' hg' hat')
            have hb2 : Below w.heap.size wr w' := ((Below.refl _ wr).alloc hgr.size _).grown hg' (by rw [World.size_alloc]; omega) (own_ge hown)
            rw [show [bv x] = [(x : UInt8)].map bv from rfl, ← List.map_append] at hown'
            go_roundw
            case rel => exact ⟨i + 1, m + 1, _, by omega, by go_num, by omega, hown', Below.trans hgr hb2⟩
            case measure => simp [intOf]; omega
          · by_cases hm0 : m = 0
            · subst hm0
              obtain ⟨t, ht⟩ : ∃ t, z.tmod 4 = t := ⟨_, rfl⟩
              have ht0 : t ≤ 0 := by
                have h5 : (-z) % 4 = -t := by rw [← ht, ← Int.neg_tmod, Int.tmod_eq_emod_of_nonneg (by omega)]
                omega
              have ht4 : -4 < t := by
                have h5 : (-z) % 4 = -t := by rw [← ht, ← Int.neg_tmod, Int.tmod_eq_emod_of_nonneg (by omega)]
                omega
              have hnew := Lies.new wr 5 [bv 97]
              by_cases htn : t < 0
              · go_wp2_with (at_builtin; refine wpList_append_src _ rfl (.tmp 41) (.tmp 45) _ rfl w.heap.size 5 i0 _ 1 Try.underlying22 hi0 hz0 hz1 hz2 rfl _ 0 _ rfl (hown.alloc _) _ _ 1 1 [bv 97] rfl rfl hnew (by simp [Value.oneCell']) (by unfold maxLen; omega) (by omega) (by rw [World.size_alloc]; omega) ?_; intro v' w' hown' hg' hat')
                have hb2 : Below w.heap.size wr w' := ((Below.refl _ wr).alloc hgr.size _).grown hg' (by rw [World.size_alloc]; omega) (own_ge hown)
                rw [show [bv 97] = [(97 : UInt8)].map bv from rfl, ← List.map_append] at hown'
                go_roundw
                case rel => exact ⟨i + 1, 0 + 1, _, by omega, by go_num, by omega, hown', Below.trans hgr hb2⟩
                case measure => simp [intOf]; omega
              · obtain rfl : t = 0 := by omega
                go_wp2_with (at_builtin; refine wpList_append_src _ rfl (.tmp 41) (.tmp 45) _ rfl w.heap.size 5 i0 _ 1 Try.underlying22 hi0 hz0 hz1 hz2 rfl _ 0 _ rfl (hown.alloc _) _ _ 1 1 [bv 97] rfl rfl hnew (by simp [Value.oneCell']) (by unfold maxLen; omega) (by omega) (by rw [World.size_alloc]; omega) ?_; intro v' w' hown' hg' hat')
                have hb2 : Below w.heap.size wr w' := ((Below.refl _ wr).alloc hgr.size _).grown hg' (by rw [World.size_alloc]; omega) (own_ge hown)
                rw [show [bv 97] = [(97 : UInt8)].map bv from rfl, ← List.map_append] at hown'
                go_roundw
                case rel => exact ⟨i + 1, 0 + 1, _, by omega, by go_num, by omega, hown', Below.trans hgr hb2⟩
                case measure => simp [intOf]; omega
            · obtain ⟨q, hq⟩ : ∃ q : Nat, z.tmod 60 = -(q : Int) := ⟨((-z) % 60).toNat, by
                have h5 : (-z) % 60 = -(z.tmod 60) := by rw [← Int.neg_tmod, Int.tmod_eq_emod_of_nonneg (by omega)]
                omega⟩
              have hq60 : q < 60 := by
                have h5 : (-z) % 60 = -(z.tmod 60) := by rw [← Int.neg_tmod, Int.tmod_eq_emod_of_nonneg (by omega)]
                omega
              obtain ⟨r, hr_⟩ : ∃ r : Nat, r = q % m := ⟨_, rfl⟩
              have hrm : r < m := by rw [hr_]; exact Nat.mod_lt _ (by omega)
              have hri : (q : Int) % (m : Int) = (r : Int) := by rw [hr_]; omega
              have hri' : (q : Int).tmod (m : Int) = (r : Int) := by rw [Int.tmod_eq_emod_of_nonneg (by omega)]; exact hri
              have hmz : ((m : Int) == 0) = false := by simp; omega
              have hmz' : ¬ ((m : Int) = 0) := by omega
              clear hr_
              go_wp2_with fail
              go_loopw [3, 8] (fun v t wv => ∃ (k m' : Nat) (o' : List UInt8), k ≤ q ∧ t = iv k ∧ m ≤ m' ∧ Hid (m' = m + k) ∧ wv.ownsRow w.heap.size 5 1 v m' (o'.map bv) ∧ Grows w wv) (fun _ t _ => q - (intOf t).toNat)
              case atStart => exact ⟨0, m, o, Nat.zero_le _, rfl, Nat.le_refl _, rfl, hown, hgr⟩
              case round =>
                clear hown hgr hwb
                obtain ⟨k, m', o', hk, rfl, hmm, HM, hown, hgr⟩ := hrel
                have hm'b : m' ≤ m + k := by have := HM.out; omega
                have hwb := hgr.size
                by_cases hkq : k < q
                · obtain ⟨Ab', cb', rfl, hcb'⟩ := own_form hown
                  have hol' : o'.length = m' := by simpa using hown.1
                  obtain ⟨j, hj⟩ : ∃ j, j + (1 + r) = m' := ⟨m' - (1 + r), by omega⟩
                  obtain ⟨y, hy⟩ : ∃ y, o'[j]? = some y := ⟨_, List.getElem?_eq_getElem (by omega)⟩
                  obtain ⟨ad', rfl, _, cy⟩ := (Lies.of_own hown).at_ (j := j) (u := bv y) (by rw [List.getElem?_map, hy]; rfl)
                  have hjd : (m' : Int) - (1 + (r : Int)) = (j : Int) := by omega
                  have hjm : (j : Int) < (m' : Int) := by omega
                  clear hy hj hol'
                  have hnew := Lies.new wr 5 [bv y]
                  go_wp2_with (at_builtin; refine wpList_append_src _ rfl (.tmp 63) (.tmp 71) _ rfl w.heap.size 5 i0 _ 1 Try.underlying22 hi0 hz0 hz1 hz2 rfl _ m' _ rfl (hown.alloc _) _ _ 1 1 [bv y] rfl rfl hnew (by simp [Value.oneCell']) (by unfold maxLen; omega) (by omega) (by rw [World.size_alloc]; omega) ?_; intro v' w' hown' hg' hat')
                  have hb2 : Below w.heap.size wr w' := ((Below.refl _ wr).alloc hgr.size _).grown hg' (by rw [World.size_alloc]; omega) (own_ge hown)
                  rw [show [bv y] = [y].map bv from rfl, ← List.map_append] at hown'
                  go_roundw
                  case rel => exact ⟨k + 1, m' + 1, _, by omega, by go_num, by omega, by have := HM.out; show _ = _; omega, hown', Below.trans hgr hb2⟩
                  case measure => simp [intOf]; omega
                · go_wp2_with fail
                  go_roundw
                  case rel => exact ⟨i + 1, m', o', by omega, by go_num, by have := HM.out; omega, hown, hgr⟩
                  case measure => simp [intOf]; omega
        · have h3' : ¬ ((m : Int) < 300) := by omega
          go_wp2
          go_ret
          exact ⟨o, m, HOL, hm, cb, Ab, rfl, hcb, hown, hgr⟩
      · have h2' : ¬ ((i : Int) < 40) := by omega
        go_wp2
        go_ret
        exact ⟨o, m, HOL, hm, cb, Ab, rfl, hcb, hown, hgr⟩
    · have h1' : ¬ ((i : Int) < (n : Int)) := by omega
      go_wp2
      go_ret
      exact ⟨o, m, HOL, hm, cb, Ab, rfl, hcb, hown, hgr⟩
end Go.Proofs.Ythnjbmaiebiehaa
