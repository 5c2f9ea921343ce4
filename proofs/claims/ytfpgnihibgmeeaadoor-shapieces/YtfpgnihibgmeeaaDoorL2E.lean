/-
  The walk of ShaPieces. Condition: the table keys holds the document's numbers.
-/
import Derived.Test.YtfpgnihibgmeeaaDoorL2D
import Derived.Test.YtfpgnihibgmeeaaDoorPcs
namespace Go.Proofs.YtfpgnihibgmeeaaDoor
open Go.RowKit
set_option linter.unusedVariables false

set_option maxRecDepth 100000 in
set_option maxHeartbeats 2000000 in
theorem pieces_walk (A : Option Addr) (n c : Nat) (w : World) (hk : Keys w) (hp : Pieces w A n) (hn : n ≤ maxLen) :
    Calls Tryd.prog 4 #[.slice A n c] w fun e w' => e = .returned (.bool true) ∧ Grows w w' := by
  unfold maxLen at hn
  obtain ⟨i0, hi0, hz0, hz1, hz2⟩ := info_parts byte_info
  have hpos := hk.pos
  go_enter Tryd.func4, Tryd.ntmps4
  go_wp2_with fail
  refine (new_any w).mono ?_
  rintro e w1 ⟨rfl, hh1, hg1⟩
  have hk1 := hk.later hg1
  have hp1 := hp.later hg1
  have hs1 : w.heap.size < w1.heap.size := by obtain ⟨_, h, _⟩ := hh1; exact h.has.lt
  have hbe0 : 0 < w.heap.size := hpos
  have HP := Lib.hid hp
  have HG1 := Lib.hid hg1
  clear hp hp1 hk
  go_wp2_with fail
  go_loopw [4, 5] (fun v i wr => ∃ (k : Nat) (all : List UInt8), k ≤ 6 ∧ k ≤ n ∧ i = .int .i64 k ∧ all.length ≤ 80 * k ∧ wr.ownsRow w1.heap.size 5 1 v all.length (all.map bv) ∧ Hold wr w.heap.size all ∧ Keys wr ∧ Grows w wr ∧ w1.heap.size ≤ wr.heap.size) (fun _ i _ => 6 - (intOf i).toNat)
  case atStart => exact ⟨0, [], by omega, by omega, rfl, by simp, World.ownsRow_nil _ _ _ _, hh1, hk1, HG1.out, Nat.le_refl _⟩
  case round =>
    clear hh1 hk1
    obtain ⟨k, all, hk6, hkn, rfl, hlen, hown, hhold, hky, hgr, hsz⟩ := hrel
    obtain ⟨A4, c4, rfl, hc4⟩ := own_form hown
    by_cases hlt : k < n
    · by_cases hlt6 : k < 6
      · obtain ⟨ad, A', l, c', bs, rfl, hcell, hbl, hL, hlc, hcm⟩ := HP.out.later hgr k hlt
        have HBL := Lib.hid hbl
        clear hbl
        have k6 : (k : Int) < 6 := by omega
        generalize hm : all.length = m at *
        have HM := Lib.hid hm
        clear hm
        go_wp2_with fail
        refine (few_bytes A' l c' 80 bs wr HBL.out hL hlc (by omega) hcm).mono ?_
        rintro e w5 ⟨A5, c5, rfl, hc5, hown5, hL5, hg5⟩
        have HL5 : Hid ((bs.take 80).length = min l 80) := by show _ = _; rw [List.length_take, HBL.out, Nat.min_comm]
        have hmin5 : min l 80 ≤ 80 := Nat.min_le_right _ _
        generalize min l 80 = n5 at *
        have hsr : w.heap.size < wr.heap.size := by obtain ⟨_, h, _⟩ := hhold; exact h.has.lt
        have hof5 : Off w5 w.heap.size A5 ((bs.take 80).map bv) := own_off (w' := w5) hown5 hsr
        have hk5 := hky.later hg5
        have hh5 := hhold.later hg5
        have ha5 := own_later hown hg5
        have hg05 := Grows.trans hgr hg5
        clear hL5 hky hhold hown hgr hcell hL
        go_wp2_with fail
        refine (write_any w.heap.size all A5 n5 c5 (bs.take 80) w5 hk5 hbe0 hh5 HL5.out hof5 (by rw [HM.out]; omega)).mono ?_
        rintro e w6 ⟨rfl, hh6, hb6⟩
        have hk6' := hk5.but hb6 hbe0
        have ha6 := own_but (w' := w6) ha5 hb6 hs1
        have hL6 := Lies.of_own (own_but (w' := w6) hown5 hb6 hsr)
        have hg06 : Grows w w6 := hg05.grown hb6 hg05.size (fun g hg => by have := Option.some.inj hg; omega)
        have hsz6 : w1.heap.size ≤ w6.heap.size := Nat.le_trans hsz (Nat.le_trans hg5.size hb6.size)
        clear hk5 hh5 ha5 hg05 hb6 hof5 hown5 hg5
        go_wp2_with (at_builtin; (refine wpList_append_src _ rfl (.tmp 28) (.tmp 29) _ rfl w1.heap.size 5 i0 _ 1 Tryd.underlying22 hi0 hz0 hz1 hz2 rfl (.slice A4 m c4) m _ rfl ha6 _ A5 n5 c5 ((bs.take 80).map bv) rfl (by rw [List.length_map]; exact HL5.out) hL6 (bv_one _) (by unfold maxLen; omega) (by omega) hsz6 ?_; intro v7 w7 hown7 hg7 hat7))
        have hge := own_ge ha6
        have hh7 := hh6.kept hg7 (fun e => by have := hge _ e; omega)
        have hk7 := hk6'.kept hg7 (fun e => by have := hge _ e; omega)
        have hg07 : Grows w w7 := hg06.grown hg7 hg06.size (fun g hg => by have := hge g hg; omega)
        have hsz7 : w1.heap.size ≤ w7.heap.size := Nat.le_trans hsz6 hg7.size
        rw [← List.map_append] at hown7
        obtain ⟨A7, c7, rfl, hc7⟩ := own_form hown7
        have hL7 := Lies.of_own hown7
        have HL7 : Hid ((all ++ bs.take 80).length = m + n5) := by show _ = _; rw [List.length_append, HM.out, HL5.out]
        have hm7 : m + n5 ≤ 1000 := by omega
        clear hh6 hk6' ha6 hL6 hg06 hg7 hat7 hge
        refine (ssum_any w.heap.size (all ++ bs.take 80) w7 hk7 hh7 (by rw [HL7.out]; omega)).mono ?_
        rintro e w8 ⟨rfl, hg8⟩
        go_wp2_with fail
        refine (rsum_any A7 (m + n5) c7 (all ++ bs.take 80) w8 HL7.out (hL7.later hg8) (by omega)).mono ?_
        rintro e w9 ⟨rfl, hg9⟩
        have q1 := same_dig' (all ++ bs.take 80)
        have hg79 := Grows.trans hg8 hg9
        have hk9 := hk7.later hg79
        have hh9 := hh7.later hg79
        have hown9 := own_later hown7 hg79
        have hg09 := Grows.trans hg07 hg79
        have hsz9 := Nat.le_trans hsz7 hg79.size
        clear hk7 hh7 hown7 hg07 hg8 hg9 hL7 hg79
        go_wp2_with fail
        refine (len_any w.heap.size (all ++ bs.take 80) w9 hh9).mono ?_
        rw [HL7.out]
        rintro e w' ⟨rfl, rfl⟩
        go_wp2_with fail
        go_roundw
        case rel => exact ⟨k + 1, all ++ bs.take 80, by omega, by omega, by go_num, by rw [HL7.out]; omega, by rw [HL7.out]; exact hown9, hh9, hk9, hg09, hsz9⟩
        case measure => simp [intOf]; omega
      · obtain rfl : k = 6 := by omega
        have HB : Hid (all.length ≤ 1000) := by show _ ≤ _; omega
        have hLa := Lies.of_own hown
        generalize hm : all.length = m at *
        have HM := Lib.hid hm
        have hmb : m ≤ 1000 := HB.out
        clear hm
        go_wp2_with fail
        refine (ssum_any w.heap.size all wr hky hhold (by rw [HM.out]; omega)).mono ?_
        rintro e w8 ⟨rfl, hg8⟩
        go_wp2_with fail
        refine (sum_any A4 m c4 all w8 (hky.later hg8) HM.out (hLa.later hg8) (by omega)).mono ?_
        rintro e w9 ⟨rfl, hg9⟩
        have q1 := same_dig all
        have hg89 := Grows.trans hg8 hg9
        have hk9 := hky.later hg89
        go_wp2_with fail
        refine (lives_any w9 hk9).mono ?_
        rintro e w10 ⟨rfl, hg10⟩
        go_wp2_with fail
        go_ret
        exact ⟨rfl, Grows.trans hgr (Grows.trans hg89 hg10)⟩
    · obtain rfl : k = n := by omega
      have HB : Hid (all.length ≤ 1000) := by show _ ≤ _; omega
      have hLa := Lies.of_own hown
      generalize hm : all.length = m at *
      have HM := Lib.hid hm
      have hmb : m ≤ 1000 := HB.out
      clear hm
      go_wp2_with fail
      refine (ssum_any w.heap.size all wr hky hhold (by rw [HM.out]; omega)).mono ?_
      rintro e w8 ⟨rfl, hg8⟩
      go_wp2_with fail
      refine (sum_any A4 m c4 all w8 (hky.later hg8) HM.out (hLa.later hg8) (by omega)).mono ?_
      rintro e w9 ⟨rfl, hg9⟩
      have q1 := same_dig all
      have hg89 := Grows.trans hg8 hg9
      have hk9 := hky.later hg89
      go_wp2_with fail
      refine (lives_any w9 hk9).mono ?_
      rintro e w10 ⟨rfl, hg10⟩
      go_wp2_with fail
      go_ret
      exact ⟨rfl, Grows.trans hgr (Grows.trans hg89 hg10)⟩
end Go.Proofs.YtfpgnihibgmeeaaDoor
