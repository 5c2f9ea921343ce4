/-
  The walk of the law HexaDigests: the law returns true, and nothing that was there has turned.
-/
import Derived.Test.YtgkoopnbphohaaaDig
import Derived.Test.YtgkoopnbphohaaaTextsW
import Derived.Outline
namespace Go.Proofs.Ytgkoopnbphohaaa
open Go.RowKit
set_option linter.unusedVariables false
set_option linter.unusedSimpArgs false

/-- A text as a value. -/
abbrev tv (l : List UInt8) : Value := .string ⟨l.toArray⟩

theorem digOf_hex (l : List UInt8) (hl : l.length = 32) : digOf (hexOf l) = (l, 0) := by
  simp [digOf, unhex_hex, hl]

set_option maxHeartbeats 4000000 in
theorem digests_walk (l s : List UInt8) (n : Int) (w : World) (hl : l.length = 32) (hs : s.length ≤ maxLen) (hn : -9223372036854775808 ≤ n ∧ n ≤ 9223372036854775807) :
    Calls Try.prog 5 #[dv l, .string ⟨s.toArray⟩, .int .i64 n] w fun e w' => e = .returned (.bool true) ∧ Below w.heap.size w w' := by
  have hbox := Box.new w 35 l
  have hg : Grows w (w.alloc (.cells (l.map bv).toArray 35)) := (Grows.refl w).alloc (Nat.le_refl _) _
  have hld := hbox.load Try.underlying35 dig_size hl
  have hdo := digOf_hex l hl
  have h64 : (hexOf l).length = 64 := by rw [hexOf_length, hl]
  have HL := Lib.hid hl
  have HDO := Lib.hid hdo
  have H64 := Lib.hid h64
  clear hl hdo h64
  go_enter Try.func5, Try.ntmps5
  go_wp2_with (with_reducible refine wpList_loads rfl 35 (.tmp 3) rfl _ rfl _ hld ?_)
  have h01 : w.heap.size + 1 = (w.alloc (.cells (l.map bv).toArray 35)).heap.size := by simp
  generalize w.alloc (.cells (l.map bv).toArray 35) = w0 at *
  clear hld
  refine (name_any l _ HL.out).mono ?_
  rintro e w1 ⟨rfl, hb1⟩
  go_wp2_with fail
  refine (digest_any (hexOf l) _ (by rw [H64.out]; omega)).mono ?_
  rw [HDO.out]
  rintro e w2 ⟨rfl, hb2⟩
  have hbox2 := Box.new w2 35 zeros
  have hg2 : Grows w2 (w2.alloc (.cells (zeros.map bv).toArray 35)) := (Grows.refl w2).alloc (Nat.le_refl _) _
  have hg02 := grow_trans hb1 hb2
  have hboxd := (hbox.later hg02).later hg2
  have H01 := Lib.hid h01
  clear h01
  go_wp2_with (first | (refine wpList_stores rfl 35 (.tmp 8) (.tmp 22) rfl w2.heap.size zeros l 32 rfl rfl hbox2 zeros_len HL.out dig_size ?_; intro w3 hbox3 hbel3; have hb3 := hbel3 _ _ (Nat.le_refl _) hg2; have hboxd3 := (hbox.later hg02).later hb3; have hldd := hboxd3.load Try.underlying35 dig_size HL.out) | (with_reducible refine wpList_loads rfl 35 (.tmp 3) rfl _ rfl _ hldd ?_))
  clear hbel3 hldd hboxd hbox2 hg2
  refine (rname_any l _ HL.out).mono ?_
  rintro e w4 ⟨rfl, hb4⟩
  have hbd4 := hboxd3.later hb4
  have hbx4 := hbox3.later hb4
  have d4 := hbd4.load Try.underlying35 dig_size HL.out
  have x4 := hbx4.load Try.underlying35 dig_size HL.out
  have nq := neq_dig l l HL.out HL.out
  simp only [beq_self_eq_true, Bool.not_true] at nq
  have hb04 := grow_trans hg (grow_trans hg02 (grow_trans hb3 hb4))
  clear hbox hboxd3 hbox3 hb1 hb2
  go_wp2_with (first | ((with_reducible refine wpList_loadg ?_ 35 (.tmp 8) rfl _ rfl _ x4 ?_); rfl) | ((with_reducible refine wpList_loadg ?_ 35 (.tmp 3) rfl _ rfl _ d4 ?_); rfl))
  refine (rbytes_any l _ HL.out).mono ?_
  rintro e w5 ⟨A5, c5, rfl, hc5, hL5, hb5⟩
  clear d4 x4 nq
  go_wp2_with fail
  refine (around_any n 5 _ hn (by omega)).mono ?_
  rintro e w' ⟨rfl, rfl⟩
  have hk5 := around_lt n (m := 5) (by omega)
  generalize around n 5 = k5 at *
  go_wp2_with fail
  rw [show (30 : Int) + (k5 : Int) = ((30 + k5 : Nat) : Int) from by omega]
  refine (fill_any A5 32 c5 (30 + k5) l _ HL.out hL5 (by omega) (by omega) (by omega)).mono ?_
  rintro e w6 ⟨lf, A6, c6, hlf, rfl, hL6, hb6⟩
  have HLF := Lib.hid hlf
  clear hlf
  go_wp2_with fail
  refine (rtext_any A6 (30 + k5) c6 lf _ HLF.out hL6 (by omega)).mono ?_
  rintro e w7 ⟨rfl, hb7⟩
  go_wp2_with fail
  refine (short_any s 70 _ hs (by omega)).mono ?_
  rintro e w' ⟨rfl, rfl⟩
  have hc1 := run_cat (P := Try.prog) [120] (hexOf l) (by rw [H64.out]; simp)
  have hc2 := run_cat (P := Try.prog) (hexOf l) [48] (by rw [H64.out]; simp)
  go_wp2_with fail
  have hLL : Lies (w7.alloc (.cells #[tv (s.take 70), tv (hexOf lf), tv (120 :: hexOf l), tv (hexOf l ++ [48])] 9)) (w7.heap.size + 1) (some ⟨w7.heap.size, 0, none⟩) ([s.take 70, hexOf lf, 120 :: hexOf l, hexOf l ++ [48]].map tv) := Lies.new w7 9 _
  have hg7 : Grows w7 (w7.alloc (.cells #[tv (s.take 70), tv (hexOf lf), tv (120 :: hexOf l), tv (hexOf l ++ [48])] 9)) := (Grows.refl w7).alloc (Nat.le_refl _) _
  have hsz : (w7.alloc (.cells #[tv (s.take 70), tv (hexOf lf), tv (120 :: hexOf l), tv (hexOf l ++ [48])] 9)).heap.size = w7.heap.size + 1 := by simp
  rw [← hsz] at hLL
  have hls : [s.take 70, hexOf lf, 120 :: hexOf l, hexOf l ++ [48]].length = 4 := rfl
  have hsh : ∀ t ∈ [s.take 70, hexOf lf, 120 :: hexOf l, hexOf l ++ [48]], t.length ≤ 1000000 := by
    intro t ht
    simp only [List.mem_cons, List.not_mem_nil, or_false] at ht
    rcases ht with rfl | rfl | rfl | rfl
    · rw [List.length_take]; omega
    · rw [hexOf_length, HLF.out]; omega
    · rw [List.length_cons, H64.out]; omega
    · rw [List.length_append, H64.out]; simp
  have hb07 := grow_trans hb04 (grow_trans hb5 (grow_trans hb6 (grow_trans hb7 hg7)))
  have HLS := Lib.hid hls
  clear hls hsz hg7 hb7 hb6 hb5 hL6 hL5 hc1 hc2 hb04 hbd4 hbx4 hb4 hb3 hg02 hg
  generalize [s.take 70, hexOf lf, 120 :: hexOf l, hexOf l ++ [48]] = ls at *
  generalize w7.alloc (.cells #[tv (s.take 70), tv (hexOf lf), tv (120 :: hexOf l), tv (hexOf l ++ [48])] 9) = wl at *
  go_loopw [12, 13, 14, 15, 16] (fun i _ _ _ _ wr => ∃ k : Nat, k ≤ 4 ∧ i = .int .i64 k ∧ Grows wl wr) (fun i _ _ _ _ _ => 4 - (intOf i).toNat)
  case atStart => exact ⟨0, Nat.zero_le _, rfl, Grows.refl _⟩
  case round =>
    obtain ⟨k, hk, rfl, hgr⟩ := hrel
    by_cases hlt : k < 4
    · obtain ⟨t, ht⟩ : ∃ t, ls[k]? = some t := ⟨_, List.getElem?_eq_getElem (by rw [HLS.out]; exact hlt)⟩
      have htl : t.length ≤ 1000000 := hsh t (List.mem_of_getElem? ht)
      obtain ⟨ad, ead, hadB, hcell⟩ := (hLL.later hgr).at_ (j := k) (u := tv t) (by rw [List.getElem?_map, ht]; rfl)
      injection ead with ead
      subst ead
      rw [add_plain, Nat.zero_add] at hcell
      clear ht
      have k1 : (k : Int) < 4 := by omega
      have hdl := digOf_len t
      obtain ⟨dl, de, hd⟩ : ∃ dl de, digOf t = (dl, de) := ⟨_, _, rfl⟩
      rw [hd] at hdl
      have HDL := Lib.hid hdl
      have HD := Lib.hid hd
      have nq := neq_dig dl dl hdl hdl
      simp only [beq_self_eq_true, Bool.not_true] at nq
      clear hdl hd
      go_wp2_with fail
      refine (digest_any t _ htl).mono ?_
      rw [HD.out]
      rintro e w1' ⟨rfl, hb1'⟩
      have hboxz := Box.new w1' 35 zeros
      have hgz : Grows w1' (w1'.alloc (.cells (zeros.map bv).toArray 35)) := (Grows.refl w1').alloc (Nat.le_refl _) _
      go_wp2_with (refine wpList_stores rfl 35 (.tmp 13) (.tmp 64) rfl w1'.heap.size zeros dl 32 rfl rfl hboxz zeros_len HDL.out dig_size ?_; intro w2' hbx hbelx; have hb2' := hbelx _ _ (Nat.le_refl _) hgz; have hcell2 := hcell_later hcell (grow_trans hb1' hb2'))
      clear hboxz hgz hbelx
      refine (rdigest_any t _ htl).mono ?_
      rw [HD.out]
      rintro e w3' ⟨rfl, hb3'⟩
      have hboxz := Box.new w3' 35 zeros
      have hgz : Grows w3' (w3'.alloc (.cells (zeros.map bv).toArray 35)) := (Grows.refl w3').alloc (Nat.le_refl _) _
      go_wp2_with (first | (refine wpList_stores rfl 35 (.tmp 15) (.tmp 72) rfl w3'.heap.size zeros dl 32 rfl rfl hboxz zeros_len HDL.out dig_size ?_; intro w4' hby hbely; have hb4' := hbely _ _ (Nat.le_refl _) hgz; have hx4 := ((hbx.later hb3').later hb4').load Try.underlying35 dig_size HDL.out; have hy4 := hby.load Try.underlying35 dig_size HDL.out) | (with_reducible refine wpList_loads rfl 35 (.tmp 13) rfl _ rfl _ hx4 ?_) | (with_reducible refine wpList_loads rfl 35 (.tmp 15) rfl _ rfl _ hy4 ?_))
      go_roundw
      case rel => exact ⟨k + 1, by omega, by go_num, grow_trans hgr (grow_trans hb1' (grow_trans hb2' (grow_trans hb3' hb4')))⟩
      case measure => simp [intOf]; omega
    · go_wp2_with fail
      refine (lives_any _).mono ?_
      rintro e w9 ⟨rfl, hb9⟩
      go_wp2_with fail
      go_ret
      exact ⟨rfl, grow_trans hb07 (grow_trans hgr hb9)⟩
end Go.Proofs.Ytgkoopnbphohaaa
