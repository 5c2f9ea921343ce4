/-
  Contract of sha.digest: the words' bytes.
-/
import Derived.Test.YtfpgnihibgmeeaaDoorShaF
import Derived.Test.YtfpgnihibgmeeaaDoorShaD
namespace Go.Proofs.YtfpgnihibgmeeaaDoor
open Go.RowKit
set_option linter.unusedVariables false

theorem four_at (v : V8) (k : Nat) (hk : k < 8) :
    (bytesOf v)[4 * k]? = some (UInt8.ofNat (v.list.getD k 0 / 16777216 % 256)) ∧ (bytesOf v)[4 * k + 1]? = some (UInt8.ofNat (v.list.getD k 0 / 65536 % 256)) ∧
    (bytesOf v)[4 * k + 2]? = some (UInt8.ofNat (v.list.getD k 0 / 256 % 256)) ∧ (bytesOf v)[4 * k + 3]? = some (UInt8.ofNat (v.list.getD k 0 % 256)) := by
  match k, hk with
  | 0, _ => simp [bytesOf, V8.list, four]
  | 1, _ => simp [bytesOf, V8.list, four]
  | 2, _ => simp [bytesOf, V8.list, four]
  | 3, _ => simp [bytesOf, V8.list, four]
  | 4, _ => simp [bytesOf, V8.list, four]
  | 5, _ => simp [bytesOf, V8.list, four]
  | 6, _ => simp [bytesOf, V8.list, four]
  | 7, _ => simp [bytesOf, V8.list, four]
theorem byte_of (x : Nat) : bv (UInt8.ofNat (x % 256)) = .int .u8 ((x : Int) % 256) := by
  have : (UInt8.ofNat (x % 256)).toNat = x % 256 := by simp
  simp only [bv, this]
  congr 1

set_option maxRecDepth 100000 in
set_option maxHeartbeats 1000000 in
theorem digest_of (v : V8) (w : World) (hv : v.Ok) :
    Calls Tryd.prog 23 #[.agg (v.list.map uv).toArray] w fun e w' => e = .returned (dv (bytesOf v)) ∧ Grows w w' := by
  obtain ⟨hA, hR, hD, hg⟩ := three w (v.list.map uv) (zeros32.map bv) (zeros32.map bv) 45 26 26
  have hld := hA.load Tryd.underlying45 rfl arr8_size
  have hix := run_index_words (P := Tryd.prog) Tryd.underlying45 Tryd.underlying40 u32_one v.list rfl
  have h4 := four_at v
  have hVb : ∀ x ∈ v.list, x < 4294967296 := by
    intro x hx
    simp only [V8.list, List.mem_cons, List.not_mem_nil, or_false] at hx
    obtain ⟨a1, a2, a3, a4, a5, a6, a7, a8⟩ := hv
    rcases hx with rfl | rfl | rfl | rfl | rfl | rfl | rfl | rfl <;> assumption
  have HIX := Lib.hid hix
  have H4 := Lib.hid h4
  have HVB := Lib.hid hVb
  clear hix h4 hVb
  go_enter Tryd.func23, Tryd.ntmps23
  go_wp2_with (with_reducible refine wpList_loads rfl 45 (.tmp 1) rfl _ rfl _ hld ?_)
  change Code.wp _ _ _ _ (((w.alloc (.cells (v.list.map uv).toArray 45)).alloc (.cells (zeros32.map bv).toArray 26)).alloc (.cells (zeros32.map bv).toArray 26))
  generalize ((w.alloc (.cells (v.list.map uv).toArray 45)).alloc (.cells (zeros32.map bv).toArray 26)).alloc (.cells (zeros32.map bv).toArray 26) = w3 at *
  have l01 : w.heap.size < w.heap.size + 1 + 1 := by omega
  have l12 : w.heap.size + 1 < w.heap.size + 1 + 1 := by omega
  generalize w.heap.size + 1 + 1 = b2 at *
  have l1 : w.heap.size ≤ w.heap.size + 1 := by omega
  generalize w.heap.size + 1 = b1 at *
  have hzl := zeros32_len
  have hdl := bytesOf_len v
  have HDG := Lib.hid (show bytesOf v = bytesOf v from rfl)
  generalize zeros32 = zs at *
  obtain ⟨dg, hdg⟩ : ∃ dg, dg = bytesOf v := ⟨_, rfl⟩
  rw [← hdg] at hdl H4
  have HZL := Lib.hid hzl
  have HDL := Lib.hid hdl
  have HDE := Lib.hid hdg
  clear hzl hdl hdg hA hld
  generalize v.list = vl at *
  go_loopw [7] (fun i wr => ∃ k : Nat, k ≤ 8 ∧ i = .int .i64 k ∧ Has wr b2 ((dg.take (4 * k) ++ zs.drop (4 * k)).map bv) ∧ Below b2 w3 wr) (fun i _ => 8 - (intOf i).toNat)
  case atStart => exact ⟨0, Nat.zero_le _, rfl, by simpa using hD, Below.refl _ _⟩
  case round =>
    clear hD
    obtain ⟨k, hk, rfl, hhas, hbel⟩ := hrel
    by_cases hlt : k < 8
    · have hix := HIX.out k hlt
      have hxb := getD_lt HVB.out (by omega) k
      obtain ⟨a0, a1, a2, a3⟩ := H4.out k hlt
      generalize vl.getD k 0 = x at *
      have s0 := hhas.set_ (k := 4 * k) (by simp [HDL.out, HZL.out]; omega) (bv (UInt8.ofNat (x / 16777216 % 256)))
      rw [← List.map_set, mid_set dg zs _ _ a0 (by rw [HZL.out]; omega)] at s0
      have s1 := s0.set_ (k := 4 * k + 1) (by simp [HDL.out, HZL.out]; omega) (bv (UInt8.ofNat (x / 65536 % 256)))
      rw [← List.map_set, mid_set dg zs _ _ a1 (by rw [HZL.out]; omega)] at s1
      have s2 := s1.set_ (k := 4 * k + 2) (by simp [HDL.out, HZL.out]; omega) (bv (UInt8.ofNat (x / 256 % 256)))
      rw [← List.map_set, mid_set dg zs _ _ a2 (by rw [HZL.out]; omega)] at s2
      have s3 := s2.set_ (k := 4 * k + 3) (by simp [HDL.out, HZL.out]; omega) (bv (UInt8.ofNat (x % 256)))
      rw [← List.map_set, mid_set dg zs _ _ a3 (by rw [HZL.out]; omega)] at s3
      have hbs := (((hbel.setCell (p := ⟨b2, 4 * k, none⟩) (Nat.le_refl _) (bv (UInt8.ofNat (x / 16777216 % 256)))).setCell (p := ⟨b2, 4 * k + 1, none⟩) (Nat.le_refl _) (bv (UInt8.ofNat (x / 65536 % 256)))).setCell (p := ⟨b2, 4 * k + 2, none⟩) (Nat.le_refl _) (bv (UInt8.ofNat (x / 256 % 256)))).setCell (p := ⟨b2, 4 * k + 3, none⟩) (Nat.le_refl _) (bv (UInt8.ofNat (x % 256)))
      have f0 := hhas.free (4 * k)
      have f1 := hhas.free (4 * k + 1)
      have f2 := hhas.free (4 * k + 2)
      have f3 := hhas.free (4 * k + 3)
      have hex : ∀ j, j < 32 → ∃ y, wr.cell? ⟨b2, j, none⟩ = some y := fun j hj => by
        obtain ⟨y, hy⟩ : ∃ y, ((dg.take (4 * k) ++ zs.drop (4 * k)).map bv)[j]? = some y := ⟨_, List.getElem?_eq_getElem (by simp [HDL.out, HZL.out]; omega)⟩
        exact ⟨y, hhas.cell hy⟩
      obtain ⟨y0, c0⟩ := hex (4 * k) (by omega)
      obtain ⟨y1, c1⟩ := hex (4 * k + 1) (by omega)
      obtain ⟨y2, c2⟩ := hex (4 * k + 2) (by omega)
      obtain ⟨y3, c3⟩ := hex (4 * k + 3) (by omega)
      have e0 : bv (UInt8.ofNat (x / 16777216 % 256)) = .int .u8 ((x : Int) / 16777216) := by rw [byte_of]; congr 1; omega
      have e1 : bv (UInt8.ofNat (x / 65536 % 256)) = .int .u8 ((x : Int) / 65536 % 256) := by rw [byte_of]; congr 1
      have e2 : bv (UInt8.ofNat (x / 256 % 256)) = .int .u8 ((x : Int) / 256 % 256) := by rw [byte_of]; congr 1
      have e3 := byte_of x
      rw [e0, e1, e2, e3] at s3 hbs
      have S3 := Lib.hid s3
      have HBS := Lib.hid hbs
      clear s0 s1 s2 s3 hbs hex e0 e1 e2 e3 hhas hbel a0 a1 a2 a3
      have k0 : (k : Int) < 8 := by omega
      go_wp2_with fail
      exact ⟨⟨k + 1, by omega, by go_num, S3.out, HBS.out⟩, by simp [intOf]; omega⟩
    · obtain rfl : k = 8 := by omega
      rw [List.take_of_length_le (by rw [HDL.out]; omega), List.drop_of_length_le (by rw [HZL.out]; omega), List.append_nil] at hhas
      have hld := hhas.load Tryd.underlying26 rfl (by rw [List.length_map, HDL.out]; exact dig_size2)
      have hRb := hR.below hbel l12
      go_wp2_with (first | (with_reducible refine wpList_loads rfl 26 (.tmp 3) rfl _ rfl _ hld ?_) | (refine wpList_storev rfl 26 (.tmp 2) (.tmp 38) rfl b1 (zs.map bv) (dg.map bv) 32 rfl rfl hRb (by rw [List.length_map, HZL.out]) (by rw [List.length_map, HDL.out]) dig_size2 (bv_one dg) ?_; intro w6 hbox6 hbel6))
      have hfin := hbel6 _ _ l1 (Below.trans hg (hbel.mono (Nat.le_of_lt l01)))
      rw [HDE.out] at hbox6
      refine bodyPost_ret (v := dv (bytesOf v)) (res_has Tryd.results23 _ rfl Tryd.underlying26 rfl (by rw [List.length_map, bytesOf_len]; exact dig_size2) hbox6) rfl ⟨rfl, hfin⟩
end Go.Proofs.YtfpgnihibgmeeaaDoor
