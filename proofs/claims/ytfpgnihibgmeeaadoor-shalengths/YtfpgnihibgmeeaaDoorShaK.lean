/-
  Contracts of (*State).Sum and of sha.Sum: the digest of the bytes; nothing that was there has turned. Conditions: the table keys holds the document's numbers; at most a million bytes.
-/
import Derived.Test.YtfpgnihibgmeeaaDoorShaJ
import Derived.Test.YtfpgnihibgmeeaaDoorShaI
import Derived.Deep.LoopGhost
namespace Go.Proofs.YtfpgnihibgmeeaaDoor
open Go.RowKit
set_option linter.unusedVariables false

theorem eight_next (N i : Nat) (hi : 0 < i) (h8 : i ≤ 8) : (eight N).take (8 - (i - 1)) = (eight N).take (8 - i) ++ [UInt8.ofNat (N / 256 ^ (i - 1) % 256)] := by
  match i, hi, h8 with
  | 1, _, _ => simp [eight]
  | 2, _, _ => simp [eight]
  | 3, _, _ => simp [eight]
  | 4, _, _ => simp [eight]
  | 5, _, _ => simp [eight]
  | 6, _, _ => simp [eight]
  | 7, _, _ => simp [eight]
  | 8, _, _ => simp [eight]

set_option maxRecDepth 100000 in
set_option maxHeartbeats 1000000 in
theorem ssum_any (b : Nat) (l : List UInt8) (w : World) (hk : Keys w) (hh : Hold w b l) (hn : l.length ≤ 1000000) :
    Calls Tryd.prog 16 #[.pointer (some ⟨b, 0, none⟩)] w fun e w' => e = .returned (dv (shaOf l)) ∧ Grows w w' := by
  have hbox := Has.new w 26 (zeros32.map bv)
  have hg0 := grows_alloc w (.cells (zeros32.map bv).toArray 26)
  have hh0 := hh.later hg0
  have hk0 := hk.later hg0
  clear hh hk
  go_enter Tryd.func16, Tryd.ntmps16
  go_wp2_with fail
  change Calls _ _ _ (w.alloc (.cells (zeros32.map bv).toArray 26)) _
  generalize w.alloc (.cells (zeros32.map bv).toArray 26) = w0 at *
  have hzl := zeros32_len
  generalize zeros32 = zs at *
  have HZL := Lib.hid hzl
  clear hzl
  refine (clone_any b l w0 hh0).mono ?_
  rintro e w1 ⟨rfl, hh1, hg1⟩
  have hs1 := hh0.later hg1
  have hk1 := hk0.later hg1
  have hbox1 := hbox.later hg1
  have hbw : w.heap.size < w0.heap.size := hbox.lt
  have hbb : b < w0.heap.size := by obtain ⟨_, h, _⟩ := hh0; exact h.has.lt
  have hg01 := Grows.trans hg0 hg1
  generalize w0.heap.size = be at *
  have hbe : 0 < be := by omega
  clear hh0 hk0 hbox hg0 hg1
  go_wp2_with fail
  refine (put_any be l 128 w1 hk1 hbe hh1 (by omega)).mono ?_
  rintro e w2 ⟨rfl, hh2, hb2⟩
  have hgl := gap_lt l.length
  have HP := Lib.hid (show padded l = l ++ [128] ++ List.replicate (gap l.length) 0 ++ eight (8 * l.length) from rfl)
  clear hh1
  go_wp2_with fail
  go_loopg [] (gap l.length) (fun k wr => ∃ j : Nat, j + k = gap l.length ∧ Hold wr be (l ++ [128] ++ List.replicate j 0) ∧ But be w1 wr)
  case atStart => exact ⟨0, by omega, by simpa using hh2, hb2⟩
  case round =>
    clear hh2 hb2
    obtain ⟨j, hj, hhold, hbut⟩ := hrel
    have hlen : (l ++ [128] ++ List.replicate j 0).length = l.length + 1 + j := by simp; omega
    have hsz : wr.cell? ⟨be, 72, none⟩ = some (.int .i64 ((l.length + 1 + j : Nat) : Int)) := by
      obtain ⟨blk, hst, _⟩ := hhold
      have := hst.size
      rwa [hlen] at this
    have hkr := hk1.but hbut hbe
    by_cases hlt : j < gap l.length
    · have o1 : (((l.length + 1 + j : Nat) : Int) % 64 == 56) = false := by simp; unfold gap at hlt; omega
      have o2 : (((l.length + 1 + j : Nat) : Int) % 64 != 56) = true := by simp; unfold gap at hlt; omega
      have HLEN := Lib.hid hlen
      have HH := Lib.hid hhold
      have HB := Lib.hid hbut
      have HKR := Lib.hid hkr
      have HJ := Lib.hid hj
      have hm : l.length + 1 + j ≤ 2000000 := by omega
      have HLT := Lib.hid hlt
      clear hlen hhold hbut hkr hj hlt
      generalize l.length + 1 + j = m at *
      go_wp2_with fail
      refine (put_any be (l ++ [128] ++ List.replicate j 0) 0 wr HKR.out hbe HH.out (by rw [HLEN.out]; omega)).mono ?_
      rintro e w3 ⟨rfl, hh3, hb3⟩
      rw [List.append_assoc, ← List.replicate_succ'] at hh3
      have hb3' := HB.out.trans hb3
      clear hb3
      go_wp2_with fail
      go_roundg (gk - 1)
      case rel => exact ⟨j + 1, by have h1 := HJ.out; have h2 := HLT.out; omega, hh3, hb3'⟩
      case measure => have h1 := HJ.out; have h2 := HLT.out; omega
    · obtain rfl : j = gap l.length := by omega
      have o1 : (((l.length + 1 + gap l.length : Nat) : Int) % 64 == 56) = true := by simp; unfold gap; omega
      have o2 : (((l.length + 1 + gap l.length : Nat) : Int) % 64 != 56) = false := by simp; unfold gap; omega
      have HLEN := Lib.hid hlen
      have HH := Lib.hid hhold
      have HB := Lib.hid hbut
      have HKR := Lib.hid hkr
      have hm : l.length + 1 + gap l.length ≤ 2000000 := by omega
      clear hlen hhold hbut hkr hj hlt
      generalize l.length + 1 + gap l.length = m at *
      generalize l ++ [128] ++ List.replicate (gap l.length) 0 = pre at *
      go_wp2_with fail
      go_loopw [4] (fun t wr => ∃ i : Nat, i ≤ 8 ∧ t = .int .i64 (8 * (i : Int) - 8) ∧ Hold wr be (pre ++ (eight (8 * l.length)).take (8 - i)) ∧ But be w1 wr) (fun t _ => (intOf t + 8).toNat)
      case atStart => exact ⟨8, by omega, rfl, by simpa using HH.out, HB.out⟩
      case round =>
        clear HH HB HKR hsz o1 o2
        obtain ⟨i, hi, rfl, hhold, hbut⟩ := hrel
        by_cases hlt : 0 < i
        · have hE := eight_next (8 * l.length) i hlt hi
          have hsz : wr.cell? ⟨b, 72, none⟩ = some (.int .i64 (l.length : Int)) := by
            obtain ⟨blk, hst, _⟩ := hs1.but hbut (by omega)
            exact hst.size
          have hkr := hk1.but hbut hbe
          have hll : (pre ++ (eight (8 * l.length)).take (8 - i)).length ≤ 3000000 := by simp [HLEN.out, eight_len]; omega
          have hsh : (8 * (l.length : Int)) / 2 ^ (8 * (i : Int) - 8).toNat = ((8 * l.length / 256 ^ (i - 1) : Nat) : Int) := by
            rw [show (8 * (i : Int) - 8).toNat = 8 * (i - 1) by omega, show ((2 : Int) ^ (8 * (i - 1))) = ((2 ^ (8 * (i - 1)) : Nat) : Int) by simp, Nat.pow_mul]
            simp
          have HE := Lib.hid hE
          have HH := Lib.hid hhold
          have HB := Lib.hid hbut
          have HKR := Lib.hid hkr
          have HLL := Lib.hid hll
          clear hE hhold hbut hkr hll
          have i1 : (0 : Int) ≤ 8 * (i : Int) - 8 := by omega
          have i2 : 8 * (i : Int) - 8 ≤ 64 := by omega
          have i3 : (8 : Int) ≤ 8 * (i : Int) := by omega
          have hcv : Value.int .u8 (8 * (l.length : Int) / 256 ^ (i - 1) % 256) = .int .u8 ((UInt8.ofNat (8 * l.length / 256 ^ (i - 1) % 256)).toNat : Int) := by
            have := byte_of (8 * l.length / 256 ^ (i - 1))
            simp only [bv] at this
            rw [this]
            congr 1
          have HCV := Lib.hid hcv
          clear hcv
          go_wp2_with fail
          rw [HCV.out]
          refine (put_any be _ _ wr HKR.out hbe HH.out (Nat.le_trans HLL.out (by omega))).mono ?_
          rintro e w3 ⟨rfl, hh3, hb3⟩
          rw [List.append_assoc, ← HE.out] at hh3
          have hb3' := HB.out.trans hb3
          clear hb3 hsh
          go_wp2_with fail
          go_roundw
          case rel => exact ⟨i - 1, by omega, by congr 1; omega, hh3, hb3'⟩
          case measure => simp [intOf]; omega
        · obtain rfl : i = 0 := by omega
          have hfull : Hold wr be (padded l) := by
            rw [HP.out]
            have := hhold
            rwa [List.take_of_length_le (by rw [eight_len]; omega)] at this
          obtain ⟨blk, hst, _⟩ := hfull
          have hok := through_ok (padded l) ((padded l).length / 64)
          have HS := Lib.hid (show shaOf l = bytesOf (through (padded l) ((padded l).length / 64)) from rfl)
          generalize through (padded l) ((padded l).length / 64) = V at *
          have hld := range_load hst.words Tryd.underlying45 rfl arr8_size
          have hboxr := hbox1.but hbut (by omega)
          have hgr : Grows w wr := hg01.grown hbut hg01.size (fun k hk => by have := Option.some.inj hk; omega)
          clear hst hhold
          go_wp2_with (with_reducible refine wpList_loads rfl 45 (.tmp 34) rfl _ rfl _ hld ?_)
          refine (digest_of V wr hok).mono ?_
          rintro e w5 ⟨rfl, hg5⟩
          have hbox5 := hboxr.later hg5
          clear hld
          go_wp2_with (refine wpList_storev rfl 26 (.tmp 2) (.tmp 36) rfl w.heap.size (zs.map bv) ((bytesOf V).map bv) 32 rfl rfl hbox5 (by rw [List.length_map, HZL.out]) (by rw [List.length_map, bytesOf_len]) dig_size2 (bv_one _) ?_; intro w6 hbox6 hbel6)
          have hfin := hbel6 _ _ (Nat.le_refl _) (Grows.trans hgr hg5)
          rw [← HS.out] at hbox6
          refine bodyPost_ret (v := dv (shaOf l)) (res_has Tryd.results16 _ rfl Tryd.underlying26 rfl (by rw [List.length_map, shaOf_len]; exact dig_size2) hbox6) rfl ⟨rfl, hfin⟩

set_option maxRecDepth 100000 in
set_option maxHeartbeats 1000000 in
theorem sum_any (A : Option Addr) (n c : Nat) (bs : List UInt8) (w : World) (hk : Keys w) (hl : bs.length = n) (hr : Lies w w.heap.size A (bs.map bv)) (hn : n ≤ 1000000) :
    Calls Tryd.prog 10 #[.slice A n c] w fun e w' => e = .returned (dv (shaOf bs)) ∧ Grows w w' := by
  have hbox := Has.new w 26 (zeros32.map bv)
  have hg0 := grows_alloc w (.cells (zeros32.map bv).toArray 26)
  have hk0 := hk.later hg0
  have hr0 := hr.later hg0
  have HL := Lib.hid hl
  clear hk hr hl
  go_enter Tryd.func10, Tryd.ntmps10
  go_wp2_with fail
  change Calls _ _ _ (w.alloc (.cells (zeros32.map bv).toArray 26)) _
  generalize w.alloc (.cells (zeros32.map bv).toArray 26) = w0 at *
  have hzl := zeros32_len
  generalize zeros32 = zs at *
  have HZL := Lib.hid hzl
  clear hzl
  refine (new_any w0).mono ?_
  rintro e w1 ⟨rfl, hh1, hg1⟩
  have hk1 := hk0.later hg1
  have hbox1 := hbox.later hg1
  have hbw : w.heap.size < w0.heap.size := hbox.lt
  have hr1 : Off w1 w0.heap.size A (bs.map bv) := fun j u hu => by
    obtain ⟨ad, e, hlt, hc⟩ := hr0 j u hu
    exact ⟨ad, e, by omega, hcell_later hc hg1⟩
  have hg01 := Grows.trans hg0 hg1
  generalize w0.heap.size = be at *
  have hbe : 0 < be := by omega
  clear hk0 hbox hg0 hg1 hr0
  go_wp2_with fail
  refine (write_any be [] A n c bs w1 hk1 hbe hh1 HL.out hr1 (by simpa using hn)).mono ?_
  rintro e w2 ⟨rfl, hh2, hb2⟩
  have hk2 := hk1.but hb2 hbe
  have hbox2 := hbox1.but hb2 (by omega)
  have hg2 : Grows w w2 := hg01.grown hb2 hg01.size (fun k hk => by have := Option.some.inj hk; omega)
  rw [List.nil_append] at hh2
  clear hh1 hk1 hbox1 hg01 hr1
  go_wp2_with fail
  refine (ssum_any be bs w2 hk2 hh2 (by rw [HL.out]; exact hn)).mono ?_
  rintro e w3 ⟨rfl, hg3⟩
  have hbox3 := hbox2.later hg3
  go_wp2_with (refine wpList_storev rfl 26 (.tmp 2) (.tmp 9) rfl w.heap.size (zs.map bv) ((shaOf bs).map bv) 32 rfl rfl hbox3 (by rw [List.length_map, HZL.out]) (by rw [List.length_map, shaOf_len]) dig_size2 (bv_one _) ?_; intro w6 hbox6 hbel6)
  have hfin := hbel6 _ _ (Nat.le_refl _) (Grows.trans hg2 hg3)
  refine bodyPost_ret (v := dv (shaOf bs)) (res_has Tryd.results10 _ rfl Tryd.underlying26 rfl (by rw [List.length_map, shaOf_len]; exact dig_size2) hbox6) rfl ⟨rfl, hfin⟩
end Go.Proofs.YtfpgnihibgmeeaaDoor
