/-
  Contract of the reference's Sum (layer 2): the digest of bytes. Condition: at most a million bytes.
-/
import Derived.Test.YtfpgnihibgmeeaaDoorShaC
namespace Go.Proofs.YtfpgnihibgmeeaaDoor
open Go.RowKit
set_option linter.unusedVariables false

theorem bytesOf_at (v : V8) (i : Nat) (hi : i < 32) : (bytesOf v)[i]? = some (UInt8.ofNat (v.list.getD (i / 4) 0 / 256 ^ (3 - i % 4) % 256)) := by
  match i, hi with
  | 0, _ => simp [bytesOf, V8.list, four]
  | 1, _ => simp [bytesOf, V8.list, four]
  | 2, _ => simp [bytesOf, V8.list, four]
  | 3, _ => simp [bytesOf, V8.list, four]
  | 4, _ => simp [bytesOf, V8.list, four]
  | 5, _ => simp [bytesOf, V8.list, four]
  | 6, _ => simp [bytesOf, V8.list, four]
  | 7, _ => simp [bytesOf, V8.list, four]
  | 8, _ => simp [bytesOf, V8.list, four]
  | 9, _ => simp [bytesOf, V8.list, four]
  | 10, _ => simp [bytesOf, V8.list, four]
  | 11, _ => simp [bytesOf, V8.list, four]
  | 12, _ => simp [bytesOf, V8.list, four]
  | 13, _ => simp [bytesOf, V8.list, four]
  | 14, _ => simp [bytesOf, V8.list, four]
  | 15, _ => simp [bytesOf, V8.list, four]
  | 16, _ => simp [bytesOf, V8.list, four]
  | 17, _ => simp [bytesOf, V8.list, four]
  | 18, _ => simp [bytesOf, V8.list, four]
  | 19, _ => simp [bytesOf, V8.list, four]
  | 20, _ => simp [bytesOf, V8.list, four]
  | 21, _ => simp [bytesOf, V8.list, four]
  | 22, _ => simp [bytesOf, V8.list, four]
  | 23, _ => simp [bytesOf, V8.list, four]
  | 24, _ => simp [bytesOf, V8.list, four]
  | 25, _ => simp [bytesOf, V8.list, four]
  | 26, _ => simp [bytesOf, V8.list, four]
  | 27, _ => simp [bytesOf, V8.list, four]
  | 28, _ => simp [bytesOf, V8.list, four]
  | 29, _ => simp [bytesOf, V8.list, four]
  | 30, _ => simp [bytesOf, V8.list, four]
  | 31, _ => simp [bytesOf, V8.list, four]
  | i + 32, hi => omega
theorem dig_size2 : (Tryd.prog.info? 26).map (·.size) = some 32 := by kernel_rfl
def zeros32 : List UInt8 := List.replicate 32 0
theorem zeros32_len : zeros32.length = 32 := rfl

set_option maxHeartbeats 1000000 in
theorem rsum_any (A : Option Addr) (n c : Nat) (bs : List UInt8) (w : World) (hl : bs.length = n) (hr : Lies w w.heap.size A (bs.map bv)) (hn : n ≤ 1000000) :
    Calls Tryd.prog 11 #[.slice A n c] w fun e w' => e = .returned (dv (shaOf bs)) ∧ Grows w w' := by
  have HL := Lib.hid hl
  clear hl
  have hbox := Has.new w 26 (zeros32.map bv)
  have hg0 := grows_alloc w (.cells (zeros32.map bv).toArray 26)
  have hr0 := hr.later hg0
  have hsz0 : (w.alloc (.cells (zeros32.map bv).toArray 26)).heap.size = w.heap.size + 1 := by simp
  have hH := Has.new (w.alloc (.cells (zeros32.map bv).toArray 26)) 40 (start8.list.map uv)
  have hg1 := grows_alloc (w.alloc (.cells (zeros32.map bv).toArray 26)) (.cells (start8.list.map uv).toArray 40)
  have hr1 := hr0.later hg1
  have hbox1 := hbox.later hg1
  have hg01 := Grows.trans hg0 hg1
  rw [hsz0] at hH
  clear hr hbox hr0 hg0 hg1 hsz0
  go_enter Tryd.func11, Tryd.ntmps11
  go_wp2_with fail
  change Calls _ _ _ ((w.alloc (.cells (zeros32.map bv).toArray 26)).alloc (.cells (start8.list.map uv).toArray 40)) _
  generalize (w.alloc (.cells (zeros32.map bv).toArray 26)).alloc (.cells (start8.list.map uv).toArray 40) = w1 at *
  refine (whole_any A n c bs w1 HL.out hr1 hn).mono ?_
  rintro e w2 ⟨g0, c0, rfl, hc0, hP, hg2⟩
  have hbox2 := hbox1.later hg2
  have hH2 := hH.cells
  have hH3 := range_later hH2 hg2
  have hg02 := Grows.trans hg01 hg2
  have HS := Lib.hid (show shaOf bs = bytesOf (through (padded bs) ((padded bs).length / 64)) from rfl)
  have hmod := padded_mod bs
  have hle := padded_len bs
  have hgl := gap_lt bs.length
  rw [HL.out] at hle hgl
  obtain ⟨K, hK⟩ : ∃ K, (padded bs).length = 64 * K := ⟨(padded bs).length / 64, by omega⟩
  rw [show (padded bs).length / 64 = K by omega] at HS
  have hK1 : K ≤ 100000 := by omega
  have HK := Lib.hid hK
  rw [hK] at hc0 ⊢
  clear hH hH2 hbox1 hr1 hg2 hg01 hmod hle hgl hK
  generalize padded bs = pd at *
  go_wp2_with fail
  go_loopw [3, 5] (fun t i wr => ∃ k : Nat, k ≤ K ∧ i = .int .i64 (64 * (k : Int)) ∧ ∃ g c, t = .slice (some ⟨g, 0, none⟩) 8 c ∧ wr.rangeAt g 0 ((through pd k).list.map uv) ∧ Grows w2 wr) (fun _ i _ => 64 * K - (intOf i).toNat)
  case atStart => exact ⟨0, Nat.zero_le _, rfl, _, _, rfl, hH3, Grows.refl _⟩
  case round =>
    clear hH3
    obtain ⟨k, hk, rfl, g, cg, rfl, hh, hgr⟩ := hrel
    by_cases hlt : k < K
    · have hPk : wr.rangeAt g0 (64 * k) (((pd.drop (64 * k)).take 64).map bv) := by
        have h1 := range_later hP hgr
        intro j u hu
        have h2 := h1 (64 * k + j) u (by
          rw [List.map_take, List.getElem?_take] at hu
          split at hu
          · rw [List.map_drop, List.getElem?_drop] at hu
            exact hu
          · cases hu)
        rwa [Nat.zero_add] at h2
      have HBL : Hid (((pd.drop (64 * k)).take 64).length = 64) := by
        show _ = _
        rw [List.length_take, List.length_drop, HK.out]
        omega
      have HT := Lib.hid (show through pd (k + 1) = mix (through pd k) ((pd.drop (64 * k)).take 64) from rfl)
      have hOk := through_ok pd k
      have k1 : (64 : Int) * (k : Int) + 64 ≤ (c0 : Int) := by omega
      have k2 : (64 : Int) * (k : Int) < 64 * (K : Int) := by omega
      go_wp2_with fail
      refine (block_any (through pd k) g cg g0 (64 * k) _ _ wr hOk hh HBL.out hPk).mono ?_
      rintro e w3 ⟨g', c', rfl, hh', hg'⟩
      rw [← HT.out] at hh'
      clear hPk hOk
      go_wp2_with fail
      go_roundw
      case rel => exact ⟨k + 1, by omega, by first | (congr 1; done) | (congr 1; omega), g', c', rfl, hh', Grows.trans hgr hg'⟩
      case measure => simp [intOf]; omega
    · obtain rfl : k = K := by omega
      have hbox3 := hbox2.later hgr
      have hg03 := Grows.trans hg02 hgr
      have hOk := through_ok pd k
      clear hbox2 hg02 hP hgr
      have hN := Has.new wr 26 (zeros32.map bv)
      have hgN := grows_alloc wr (.cells (zeros32.map bv).toArray 26)
      have hszN : wr.heap.size < (wr.alloc (.cells (zeros32.map bv).toArray 26)).heap.size := by simp
      have hhN := range_later hh hgN
      have hboxN := hbox3.later hgN
      have hg0N := Grows.trans hg03 hgN
      have hwlt : w.heap.size < wr.heap.size := hbox3.lt
      have hglt : g < wr.heap.size := World.block_lt_of_cell? wr ⟨g, 0 + 0, none⟩ (hh 0 _ rfl)
      have hD := bytesOf_at (through pd k)
      have hDl := bytesOf_len (through pd k)
      have hVl : (through pd k).list.length = 8 := rfl
      have hVb : ∀ x ∈ (through pd k).list, x < 4294967296 := by
        intro x hx
        simp only [V8.list, List.mem_cons, List.not_mem_nil, or_false] at hx
        obtain ⟨a1, a2, a3, a4, a5, a6, a7, a8⟩ := hOk
        rcases hx with rfl | rfl | rfl | rfl | rfl | rfl | rfl | rfl <;> assumption
      go_wp2_with fail
      change Code.wp _ _ _ _ (wr.alloc (.cells (zeros32.map bv).toArray 26))
      clear hh hbox3 hg03 hgN hOk
      generalize wr.alloc (.cells (zeros32.map bv).toArray 26) = w4 at *
      generalize wr.heap.size = gd at *
      generalize bytesOf (through pd k) = dg at *
      generalize (through pd k).list = vl at *
      have HD := Lib.hid hD
      have HDL := Lib.hid hDl
      have HVL := Lib.hid hVl
      have HVB := Lib.hid hVb
      clear hD hDl hVl hVb
      go_loopw [7] (fun i wr => ∃ i' : Nat, i' ≤ 32 ∧ i = .int .i64 i' ∧ Has wr gd ((dg.take i' ++ zeros32.drop i').map bv) ∧ Below gd w4 wr) (fun i _ => 32 - (intOf i).toNat)
      case atStart => exact ⟨0, Nat.zero_le _, rfl, hN, Below.refl _ _⟩
      case round =>
        clear hN
        obtain ⟨i, hi, rfl, hhas, hbel⟩ := hrel
        by_cases hlt : i < 32
        · have hcx := uv_at (range_below hhN hbel hglt) (i / 4) (by rw [HVL.out]; omega)
          rw [Nat.zero_add] at hcx
          have hxb := getD_lt HVB.out (by omega) (i / 4)
          have hd := HD.out i hlt
          have hset := hhas.set_ (k := i) (by simp [HDL.out, zeros32_len]; omega) (bv (UInt8.ofNat (vl.getD (i / 4) 0 / 256 ^ (3 - i % 4) % 256)))
          rw [← List.map_set, mid_set dg zeros32 i _ hd (by rw [zeros32_len]; exact hlt)] at hset
          have hbx : bv (UInt8.ofNat (vl.getD (i / 4) 0 / 256 ^ (3 - i % 4) % 256)) = .int .u8 (((vl.getD (i / 4) 0 / 256 ^ (3 - i % 4) : Nat) : Int) % 256) := by
            have : (UInt8.ofNat (vl.getD (i / 4) 0 / 256 ^ (3 - i % 4) % 256)).toNat = vl.getD (i / 4) 0 / 256 ^ (3 - i % 4) % 256 := by simp
            simp only [bv, this]
            congr 1
          rw [hbx] at hset
          have hfr := hhas.free i
          obtain ⟨y, hy⟩ : ∃ y, ((dg.take i ++ zeros32.drop i).map bv)[i]? = some y := ⟨_, List.getElem?_eq_getElem (by simp [HDL.out, zeros32_len]; omega)⟩
          have hcy := hhas.cell hy
          have hbs := hbel.setCell (p := ⟨gd, i, none⟩) (Nat.le_refl _) (.int .u8 (((vl.getD (i / 4) 0 / 256 ^ (3 - i % 4) : Nat) : Int) % 256))
          clear hy hbx hd hhas hbel
          generalize vl.getD (i / 4) 0 = X at *
          have i1 : (i : Int) / 4 < 8 := by omega
          have i2 : ((i : Int) / 4).toNat = i / 4 := by omega
          have i3 : (i : Int) < 32 := by omega
          go_wp2_with fail
          go_loopw [8, 9] (fun x j wr' => ∃ j' : Nat, i % 4 ≤ j' ∧ j' ≤ 3 ∧ j = .int .i64 j' ∧ x = .int .u32 ((X / 256 ^ (j' - i % 4) : Nat) : Int) ∧ wr' = wr) (fun _ j _ => 3 - (intOf j).toNat)
          case atStart => exact ⟨i % 4, by omega, by omega, by rfl, by simp, rfl⟩
          case round =>
            obtain ⟨j, hj0, hj1, rfl, rfl, rfl⟩ := hrel
            by_cases hj : j < 3
            · have HX := Lib.hid (show X / 256 ^ (j - i % 4) / 256 = X / 256 ^ (j + 1 - i % 4) by rw [Nat.div_div_eq_div_mul, ← Nat.pow_succ, show (j - i % 4).succ = j + 1 - i % 4 by omega])
              have hxb' : X / 256 ^ (j - i % 4) < 4294967296 := Nat.lt_of_le_of_lt (Nat.div_le_self _ _) hxb
              generalize X / 256 ^ (j - i % 4) = x at *
              go_wp2_with fail
              go_roundw
              case rel => exact ⟨j + 1, by omega, by omega, by go_num, by rw [← HX.out]; rfl, by trivial⟩
              case measure => simp [intOf]; omega
            · obtain rfl : j = 3 := by omega
              rw [show ((3 : Nat) : Int) = 3 from rfl]
              have hxb' : X / 256 ^ (3 - i % 4) < 4294967296 := Nat.lt_of_le_of_lt (Nat.div_le_self _ _) hxb
              generalize X / 256 ^ (3 - i % 4) = x at *
              go_wp2_with fail
              go_roundw
              case rel => exact ⟨i + 1, by omega, by go_num, hset, hbs⟩
              case measure => simp [intOf]; omega
        · obtain rfl : i = 32 := by omega
          rw [List.take_of_length_le (by rw [HDL.out]; omega), List.drop_of_length_le (by rw [zeros32_len]; omega), List.append_nil] at hhas
          have hld := hhas.load Tryd.underlying26 rfl (by rw [List.length_map, HDL.out]; exact dig_size2)
          have hboxZ := hboxN.below hbel hwlt
          go_wp2_with (first | (with_reducible refine wpList_loads rfl 26 (.tmp 6) rfl _ rfl _ hld ?_) | (refine wpList_storev rfl 26 (.tmp 2) (.tmp 48) rfl w.heap.size (zeros32.map bv) (dg.map bv) 32 rfl rfl hboxZ (by rw [List.length_map]; rfl) (by rw [List.length_map]; exact HDL.out) dig_size2 (bv_one dg) ?_; intro w6 hbox6 hbel6))
          have hfin := hbel6 _ _ (Nat.le_refl _) (Below.trans hg0N (hbel.mono (Nat.le_of_lt hwlt)))
          rw [← HS.out] at hbox6
          refine bodyPost_ret (v := dv (shaOf bs)) (res_has Tryd.results11 _ rfl Tryd.underlying26 rfl (by rw [List.length_map, shaOf_len]; exact dig_size2) hbox6) rfl ⟨rfl, hfin⟩
end Go.Proofs.YtfpgnihibgmeeaaDoor
