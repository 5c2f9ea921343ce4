/-
  Contracts of the reference's Bytes and Name: a digest's bytes, and its text.
-/
import Derived.Test.YtfpgnihibgmeeaaDoorRows
import Derived.Test.YtfpgnihibgmeeaaDoorBase
import Derived.Test.YtfpgnihibgmeeaaDoorArr
import Derived.Test.YtfpgnihibgmeeaaDoorRFew
import Derived.Test.YtfpgnihibgmeeaaDoorRTex
import Derived.Outline
import Derived.Lib.Hide
namespace Go.Proofs.YtfpgnihibgmeeaaDoor
open Go.RowKit
set_option linter.unusedVariables false

theorem dig_size : (Tryd.prog.info? 26).map (·.size) = some 32 := by kernel_rfl
set_option maxHeartbeats 1000000 in
theorem rbytes_any (l : List UInt8) (w : World) (hl : l.length = 32) :
    Calls Tryd.prog 28 #[dv l] w fun e w' => ∃ A c, e = .returned (.slice A 32 c) ∧ 32 ≤ c ∧ Lies w' w'.heap.size A (l.map bv) ∧ Below w.heap.size w w' := by
  obtain ⟨i0, hi0, hz0, hz1, hz2⟩ := info_parts byte_info
  have hbox := Box.new w 26 l
  have hg : Grows w (w.alloc (.cells (l.map bv).toArray 26)) := (Grows.refl w).alloc (Nat.le_refl _) _
  have HL := Lib.hid hl
  clear hl
  go_enter Tryd.func28, Tryd.ntmps28
  go_wp2
  have h01 : w.heap.size + 1 = (w.alloc (.cells (l.map bv).toArray 26)).heap.size := by simp
  generalize w.alloc (.cells (l.map bv).toArray 26) = w0 at *
  have H01 := Lib.hid h01
  clear h01
  go_loopw [3, 4] (fun v i wr => ∃ k : Nat, k ≤ 32 ∧ i = .int .i64 k ∧ wr.ownsRow w0.heap.size 5 1 v k ((l.take k).map bv) ∧ Grows w0 wr) (fun _ i _ => 32 - (intOf i).toNat)
  case atStart => exact ⟨0, Nat.zero_le _, rfl, World.ownsRow_nil _ _ _ _, Grows.refl _⟩
  case round =>
    obtain ⟨k, hk, rfl, hown, hgr⟩ := hrel
    by_cases hlt : k < 32
    · obtain ⟨x, hx⟩ : ∃ x, l[k]? = some x := ⟨_, List.getElem?_eq_getElem (by rw [HL.out]; exact hlt)⟩
      have cx := (hbox.later hgr).cell hx
      have htk : l.take (k + 1) = l.take k ++ [x] := by rw [List.take_add_one, hx]; rfl
      have HT := Lib.hid htk
      have hnew := Lies.new wr 5 [bv x]
      clear hx htk
      have k1 : (k : Int) < 32 := by omega
      go_wp2_with (at_builtin; refine wpList_append_src _ rfl (.tmp 9) (.tmp 13) _ rfl w0.heap.size 5 i0 _ 1 Tryd.underlying22 hi0 hz0 hz1 hz2 rfl u3 k _ rfl (hown.alloc _) _ _ 1 1 [bv x] rfl rfl hnew (by simp [Value.oneCell']) (by unfold maxLen; omega) (by omega) (by rw [World.size_alloc]; have := hgr.size; omega) ?_; intro v' w' hown' hg' hat')
      have hb2 : Below w0.heap.size wr w' := ((Below.refl _ wr).alloc hgr.size _).grown hg' (by rw [World.size_alloc]; have := hgr.size; omega) (own_ge hown)
      rw [show [bv x] = [x].map bv from rfl, ← List.map_append, ← HT.out] at hown'
      go_roundw
      case rel => exact ⟨k + 1, by omega, by go_num, hown', Below.trans hgr hb2⟩
      case measure => simp [intOf]; omega
    · obtain rfl : k = 32 := by omega
      obtain ⟨A, c, rfl, hc⟩ := own_form hown
      rw [List.take_of_length_le (by rw [HL.out]; omega)] at hown
      go_wp2
      go_ret
      exact ⟨A, c, rfl, hc, Lies.of_own hown, grow_trans hg hgr⟩

set_option maxHeartbeats 400000 in
theorem rname_any (l : List UInt8) (w : World) (hl : l.length = 32) :
    Calls Tryd.prog 21 #[dv l] w fun e w' => e = .returned (.string ⟨(hexOf l).toArray⟩) ∧ Below w.heap.size w w' := by
  have hbox := Box.new w 26 l
  have hg : Grows w (w.alloc (.cells (l.map bv).toArray 26)) := (Grows.refl w).alloc (Nat.le_refl _) _
  have hld := hbox.load Tryd.underlying26 dig_size hl
  have HL := Lib.hid hl
  clear hl
  go_enter Tryd.func21, Tryd.ntmps21
  go_wp2_with (with_reducible refine wpList_loads rfl 26 (.tmp 1) rfl _ rfl _ hld ?_)
  refine (rbytes_any l _ HL.out).mono ?_
  rintro e w1 ⟨A, c, rfl, hc, hL, hb1⟩
  go_wp2_with fail
  refine (rtext_any A 32 c l _ HL.out hL (by omega)).mono ?_
  rintro e w2 ⟨rfl, hb2⟩
  go_wp2_with fail
  go_ret
  exact ⟨rfl, grow_trans hg (grow_trans hb1 hb2)⟩

end Go.Proofs.YtfpgnihibgmeeaaDoor
