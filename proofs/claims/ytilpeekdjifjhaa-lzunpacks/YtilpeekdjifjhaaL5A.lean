/-
  The laws of layer 5: the example (lives); one byte many times (the reference's Fill).
-/
import Derived.Test.YtilpeekdjifjhaaLzE
import Derived.Test.YtilpeekdjifjhaaLzG
import Derived.Test.YtilpeekdjifjhaaRAro
import Derived.Test.YtilpeekdjifjhaaSched
import Derived.Lib.SlBytesConst
import Derived.Lib.SmallJoins
namespace Go.Proofs.Ytilpeekdjifjhaa
open Go.RowKit
set_option linter.unusedVariables false

theorem ret_true {a : Bool} (h : a = true) : Ending.returned (.bool a) = .returned (.bool true) := by rw [h]
def eight : List UInt8 := [97, 97, 97, 97, 97, 97, 97, 97]
theorem pack_eight : packOf eight = [0, 97, 131, 0, 0] := by
  have hm := rep_match 8 97 1 (by omega) (by omega)
  show packOf (List.replicate 8 97) = _
  unfold packOf
  rw [pack_none (by simp) (rep_none 8 97 0 (.inl rfl)), Nat.zero_add, pack_some (by simp) (by rw [hm]; decide), hm, pack_end (by simp)]
  simp [lits_nil]
  rw [lits_more (by simp)]
  simp [lits_nil, mtok]

set_option maxRecDepth 100000 in
set_option maxHeartbeats 1000000 in
theorem lives5_any (w : World) : Calls Try.prog 13 #[] w fun e w' => e = .returned (.bool true) ∧ Grows w w' := by
  have hg0 := grows_alloc w (.cells (eight.map bv).toArray 5 (8, 9))
  have hL0 : Lies (w.alloc (.cells (eight.map bv).toArray 5 (8, 9))) (w.alloc (.cells (eight.map bv).toArray 5 (8, 9))).heap.size (some ⟨w.heap.size, 0, none⟩) (eight.map bv) := fun j u hu =>
    ⟨_, rfl, by rw [World.size_alloc]; exact Nat.lt_succ_self _, by rw [add_plain, Nat.zero_add, Joins.cell_alloc_mark_at w _ _ _ _ _ rfl]; simpa using hu⟩
  have HN : Hid (packOf eight = [0, 97, 131, 0, 0]) := pack_eight
  have hl9 : eight.length = 8 := rfl
  have hcv := Lib.run_convert_bytes_const (P := Try.prog) w 22 5 #[.int .u8 97, .int .u8 97, .int .u8 97, .int .u8 97, .int .u8 97, .int .u8 97, .int .u8 97, .int .u8 97] 8 8 Try.underlying22 Try.underlying5
  go_enter Try.func13, Try.ntmps13
  go_wp2_with fail
  change Calls _ _ _ (w.alloc (.cells (eight.map bv).toArray 5 (8, 9))) _
  clear hcv
  generalize w.alloc (.cells (eight.map bv).toArray 5 (8, 9)) = w0 at *
  have HL := Lib.hid hl9
  clear hl9
  generalize eight = tx at *
  refine (pack_any _ 8 8 tx w0 HL.out hL0 (by omega) (by omega)).mono ?_
  rw [HN.out]
  rintro e w1 ⟨v, rfl, hown, hg1⟩
  obtain ⟨A1, c1, rfl, hc1⟩ := own_form hown
  have cv := run_string_of (P := Try.prog) w1 22 5 Try.underlying22 Try.underlying5 9 Try.underlying9 _ A1 5 c1 [0, 97, 131, 0, 0] rfl (Lies.of_own hown)
  clear hown
  go_wp2_with fail
  go_ret
  exact ⟨rfl, Grows.trans hg0 hg1⟩

set_option maxHeartbeats 1000000 in
/-- Fill of one byte. -/
theorem fill_one (A : Option Addr) (c m : Nat) (x : UInt8) (w : World) (hr : Lies w w.heap.size A [bv x]) (hm : m ≤ 1000000) :
    Calls Try.prog 21 #[.slice A 1 c, .int .i64 (m : Int)] w fun e w' => ∃ (A' : Option Addr) (c' : Nat), e = .returned (.slice A' m c') ∧ m ≤ c' ∧ Lies w' w'.heap.size A' ((List.replicate m x).map bv) ∧ Below w.heap.size w w' := by
  obtain ⟨i0, hi0, hz0, hz1, hz2⟩ := info_parts byte_info
  go_enter Try.func21, Try.ntmps21
  go_wp2
  go_loopw [5, 6] (fun v i wr => ∃ (k : Nat) (l : List UInt8), k ≤ m ∧ Hid (l = List.replicate k x) ∧ i = .int .i64 k ∧ wr.ownsRow w.heap.size 5 1 v k (l.map bv) ∧ Grows w wr) (fun _ i _ => m - (intOf i).toNat)
  case atStart => exact ⟨0, [], Nat.zero_le _, rfl, rfl, World.ownsRow_nil _ _ _ _, Grows.refl _⟩
  case round =>
    obtain ⟨k, l, hk, HK, rfl, hown, hgr⟩ := hrel
    by_cases hlt : k < m
    · obtain ⟨ad, rfl, _, cx⟩ := (hr.later hgr).at_ (j := 0) (u := bv x) rfl
      rw [add_zero_addr] at cx
      have HN : Hid (l ++ [x] = List.replicate (k + 1) x) := by show _ = _; rw [HK.out, List.replicate_succ']
      have hnew := Lies.new wr 5 [bv x]
      have r2 : (k : Int) % 1 = 0 := by omega
      go_wp2_with (at_builtin; refine wpList_append_src _ rfl (.tmp 15) (.tmp 23) _ rfl w.heap.size 5 i0 _ 1 Try.underlying22 hi0 hz0 hz1 hz2 rfl u5 k _ rfl (hown.alloc _) _ _ 1 1 [bv x] rfl rfl hnew (by simp [Value.oneCell']) (by unfold maxLen; omega) (by omega) (by rw [World.size_alloc]; have := hgr.size; omega) ?_; intro v' w' hown' hg' hat')
      have hb2 : Below w.heap.size wr w' := ((Below.refl _ wr).alloc hgr.size _).grown hg' (by rw [World.size_alloc]; have := hgr.size; omega) (own_ge hown)
      rw [show [bv x] = [x].map bv from rfl, ← List.map_append] at hown'
      go_roundw
      case rel => exact ⟨k + 1, l ++ [x], by omega, HN.out, by go_num, hown', Below.trans hgr hb2⟩
      case measure => simp [intOf]; omega
    · obtain rfl : k = m := by omega
      obtain ⟨A', c', rfl, hc⟩ := own_form hown
      go_wp2
      go_ret
      exact ⟨A', c', rfl, hc, by rw [← HK.out]; exact Lies.of_own hown, hgr⟩

/-- The contracts, with what they answer under letters. -/
theorem pack_out (A : Option Addr) (n c : Nat) (bs : List UInt8) (w : World) (hl : bs.length = n) (hr : Lies w w.heap.size A (bs.map bv)) (hc : n ≤ c) (hn : n ≤ 1000000000) :
    Calls Try.prog 14 #[.slice A n c] w fun e w' => ∃ (p : List UInt8) (pn c' : Nat) (A' : Option Addr), Hid (packOf bs = p) ∧ Hid (p.length = pn) ∧ pn ≤ n + (n + 127) / 128 ∧ e = .returned (.slice A' pn c') ∧ pn ≤ c' ∧ Lies w' w'.heap.size A' (p.map bv) ∧ Grows w w' := by
  refine (pack_any A n c bs w hl hr hc hn).mono ?_
  rintro e w' ⟨v, rfl, hown, hg⟩
  obtain ⟨A', c', rfl, hc'⟩ := own_form hown
  have hpl := packOf_len bs
  rw [hl] at hpl
  exact ⟨_, _, c', A', rfl, rfl, hpl, rfl, hc', Lies.of_own hown, hg⟩
theorem unpack_out (A : Option Addr) (n c : Nat) (bs : List UInt8) (most : Int) (w : World) (hl : bs.length = n) (hr : Lies w w.heap.size A (bs.map bv)) (hc : n ≤ c) (hn : n ≤ 1000000000) (hmo : -9223372036854775808 ≤ most ∧ most ≤ 9223372036854775807) :
    Calls Try.prog 15 #[.slice A n c, .int .i64 most] w fun e w' => ∃ (l : List UInt8) (er ln c' : Nat) (A' : Option Addr), Hid (unpackOf bs most = (l, er)) ∧ Hid (l.length = ln) ∧ e = .returned (.tuple #[.slice A' ln c', iv er]) ∧ ln ≤ c' ∧ Lies w' w'.heap.size A' (l.map bv) ∧ Grows w w' := by
  refine (unpack_any A n c bs most w hl hr hc hn hmo).mono ?_
  rintro e w' ⟨v, rfl, hown, hg⟩
  obtain ⟨A', c', rfl, hc'⟩ := own_form hown
  exact ⟨_, _, _, c', A', rfl, rfl, rfl, hc', Lies.of_own hown, hg⟩
end Go.Proofs.Ytilpeekdjifjhaa
