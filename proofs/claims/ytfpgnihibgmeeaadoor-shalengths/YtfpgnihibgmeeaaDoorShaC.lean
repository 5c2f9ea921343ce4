/-
  Contracts of the reference's whole and Sum (layer 2): the bytes with what stands behind them, and their digest. Condition: at most a million bytes.
-/
import Derived.Test.YtfpgnihibgmeeaaDoorShaB
import Derived.Deep.OwnRows
namespace Go.Proofs.YtfpgnihibgmeeaaDoor
open Go.RowKit
set_option linter.unusedVariables false

theorem byte_info2 : (Tryd.prog.info? 5).map (fun i => (i.zero, i.size, i.bytes)) = some (some (.int .u8 0), 1, 1) := by kernel_rfl
def lenV : Value → Nat
  | .slice _ n _ => n
  | _ => 0
theorem made_bytes (n : Nat) : ((List.replicate n (0 : UInt8)).map bv).toArray = madeCells #[.int .u8 0] n := by
  apply Array.ext'
  rw [toList_madeCells_one]
  simp [bv]
theorem gap_lt (n : Nat) : gap n < 64 := Nat.mod_lt _ (by decide)
theorem eight_at (N j : Nat) (h0 : 0 < j) (hj : j ≤ 8) : (eight N)[j - 1]? = some (UInt8.ofNat (N / 256 ^ (8 - j) % 256)) := by
  match j, h0, hj with
  | 1, _, _ => rfl
  | 2, _, _ => rfl
  | 3, _, _ => rfl
  | 4, _, _ => rfl
  | 5, _, _ => rfl
  | 6, _, _ => rfl
  | 7, _, _ => rfl
  | 8, _, _ => simp [eight]
theorem back_set {α : Type} (z e : List α) (j : Nat) (x : α) (h0 : 0 < j) (hx : e[j - 1]? = some x) (hz : j ≤ z.length) : (z.take j ++ e.drop j).set (j - 1) x = z.take (j - 1) ++ e.drop (j - 1) := by
  obtain ⟨i, rfl⟩ : ∃ i, j = i + 1 := ⟨j - 1, by omega⟩
  simp only [Nat.add_sub_cancel] at *
  have hi : i < e.length := (List.getElem?_eq_some_iff.1 hx).1
  have ex : x = e[i] := by rw [List.getElem?_eq_getElem hi] at hx; injection hx with hx; exact hx.symm
  rw [List.set_append_left _ _ (by simp; omega), List.take_succ_eq_append_getElem (by omega), List.set_append_right _ _ (by simp; omega), List.drop_eq_getElem_cons hi, ex]
  simp [Nat.min_eq_left (show i ≤ z.length by omega)]

set_option maxHeartbeats 1000000 in
theorem whole_any (A : Option Addr) (n c : Nat) (bs : List UInt8) (w : World) (hl : bs.length = n) (hr : Lies w w.heap.size A (bs.map bv)) (hn : n ≤ 1000000) :
    Calls Tryd.prog 19 #[.slice A n c] w fun e w' => ∃ g c', e = .returned (.slice (some ⟨g, 0, none⟩) (padded bs).length c') ∧ (padded bs).length ≤ c' ∧ w'.rangeAt g 0 ((padded bs).map bv) ∧ Grows w w' := by
  obtain ⟨i0, hi0, hz0, hz1, hz2⟩ := info_parts byte_info2
  have HL := Lib.hid hl
  clear hl
  go_enter Tryd.func19, Tryd.ntmps19
  go_wp2_with (at_builtin; (first
    | (refine wpList_append_src _ rfl (.tmp 7) (.tmp 8) _ rfl w.heap.size 5 i0 _ 1 Tryd.underlying22 hi0 hz0 hz1 hz2 rfl (.slice none 0 0) 0 [] rfl (World.ownsRow_nil _ _ _ _) w.heap.size A n c (bs.map bv) rfl (by rw [List.length_map]; exact HL.out) hr (bv_one bs) (by unfold maxLen; omega) (by omega) (Nat.le_refl _) ?_; intro v1 w1 hown1 hg1 hat1; rw [Nat.zero_add, List.nil_append] at hown1; have hb1 : Grows w w1 := (Grows.refl w).grown hg1 (Nat.le_refl _) (by simp [Value.ownBlock]))
    | (refine wpList_append_src _ rfl (.tmp 10) (.tmp 11) _ rfl w.heap.size 5 i0 _ 1 Tryd.underlying22 hi0 hz0 hz1 hz2 rfl v1 n _ rfl (hown1.alloc _) _ _ 1 1 [bv 128] rfl rfl (Lies.new w1 5 [bv 128]) (by simp [Value.oneCell']) (by unfold maxLen; omega) (by omega) (by have := hb1.size; simp; omega) ?_; intro v2 w2 hown2 hg2 hat2)))
  have hb2 : Grows w w2 := (hb1.alloc hb1.size _).grown hg2 (by have := hb1.size; simp; omega) (own_ge hown1)
  rw [show [bv 128] = [(128 : UInt8)].map bv from rfl, ← List.map_append] at hown2
  clear hown1 hg1 hat1 hb1 hg2 hat2
  go_loopw [3] (fun t wr => ∃ j m : Nat, j ≤ gap n ∧ m = n + 1 + j ∧ wr.ownsRow w.heap.size 5 1 t m ((bs ++ [128] ++ List.replicate j 0).map bv) ∧ Grows w wr) (fun t _ => n + 1 + gap n - lenV t)
  case atStart => exact ⟨0, n + 1, Nat.zero_le _, rfl, by simpa using hown2, hb2⟩
  case round =>
    clear hown2 hb2
    obtain ⟨j, m, hj, hm, hown, hbel⟩ := hrel
    obtain ⟨A', c', rfl, hmc⟩ := own_form hown
    have hgl := gap_lt n
    by_cases hlt : j < gap n
    · have o1 : ((m : Int) % 64 == 56) = false := by simp; unfold gap at hlt; omega
      have o2 : ((m : Int) % 64 != 56) = true := by simp; unfold gap at hlt; omega
      have HM := Lib.hid hm
      have hm1 : m ≤ 2000000 := by omega
      clear hm
      go_wp2_with (at_builtin; refine wpList_append_src _ rfl (.tmp 17) (.tmp 18) _ rfl w.heap.size 5 i0 _ 1 Tryd.underlying22 hi0 hz0 hz1 hz2 rfl (.slice A' m c') m _ rfl (hown.alloc _) _ _ 1 1 [bv 0] rfl rfl (Lies.new wr 5 [bv 0]) (by simp [Value.oneCell']) (by unfold maxLen; omega) (by omega) (by have := hbel.size; simp; omega) ?_; intro v2 w2 hown2 hg2 hat2)
      have hb2 : Grows w w2 := (hbel.alloc hbel.size _).grown hg2 (by have := hbel.size; simp; omega) (own_ge hown)
      rw [show [bv 0] = [(0 : UInt8)].map bv from rfl, ← List.map_append, List.append_assoc, ← List.replicate_succ'] at hown2
      obtain ⟨A2, c2, rfl, hmc2⟩ := own_form hown2
      go_roundw
      case rel => exact ⟨j + 1, m + 1, by omega, by have := HM.out; omega, hown2, hb2⟩
      case measure => have := HM.out; simp [lenV]; omega
    · obtain rfl : j = gap n := by omega
      have o1 : ((m : Int) % 64 == 56) = true := by simp; unfold gap at hm; omega
      have o2 : ((m : Int) % 64 != 56) = false := by simp; unfold gap at hm; omega
      have HM := Lib.hid hm
      have hm1 : m ≤ 2000000 := by omega
      clear hm hlt
      have hN := Has.new wr 5 ((List.replicate 8 0).map bv)
      have hgN := grows_alloc wr (.cells ((List.replicate 8 0).map bv).toArray 5)
      have hownN : ∀ w', Below wr.heap.size (wr.alloc (.cells ((List.replicate 8 0).map bv).toArray 5)) w' → w'.ownsRow w.heap.size 5 1 (.slice A' m c') m ((bs ++ [128] ++ List.replicate (gap n) 0).map bv) := fun w' h => own_later hown (Below.trans hgN h)
      have hrN : ∀ w', Below wr.heap.size (wr.alloc (.cells ((List.replicate 8 0).map bv).toArray 5)) w' → Grows w w' := fun w' h => Grows.trans hbel (Below.trans hgN h)
      have hz8 : wr.heap.size < (wr.alloc (.cells ((List.replicate 8 0).map bv).toArray 5)).heap.size := by simp
      have hg8 : w.heap.size ≤ wr.heap.size := hbel.size
      rw [made_bytes 8] at hN hownN hrN hz8
      go_wp2_with (at_make; (refine wpList_make_row _ rfl _ _ _ rfl 5 i0 _ Tryd.underlying22 hi0 hz0 hz1 rfl .i64 .i64 8 rfl rfl (by rw [hz2]; omega) (by omega) ?_))
      clear hown hbel hgN
      generalize wr.alloc (.cells (madeCells #[.int .u8 0] 8) 5) = w5 at *
      generalize wr.heap.size = g5 at *
      have HO := Lib.hid hownN
      have HG := Lib.hid hrN
      clear hownN hrN
      go_loopw [4, 6] (fun t i wr => ∃ j : Nat, j ≤ 8 ∧ i = .int .i64 ((j : Int) - 1) ∧ t = .int .i64 ((8 * n / 256 ^ (8 - j) : Nat) : Int) ∧ Has wr g5 (((List.replicate 8 0).take j ++ (eight (8 * n)).drop j).map bv) ∧ Below g5 w5 wr ∧ wr.heap.size = w5.heap.size) (fun _ i _ => (intOf i + 1).toNat)
      case atStart => exact ⟨8, by omega, rfl, by simp, hN, Below.refl _ _, rfl⟩
      case round =>
        clear hN
        obtain ⟨j, hj, rfl, rfl, hhas, hbel, hsz⟩ := hrel
        by_cases hlt : 0 < j
        · have he := eight_at (8 * n) j hlt hj
          have hset := hhas.set_ (k := j - 1) (by simp [eight_len]; omega) (bv (UInt8.ofNat (8 * n / 256 ^ (8 - j) % 256)))
          rw [← List.map_set, back_set _ _ j _ hlt he (by simp; omega)] at hset
          have hbx : bv (UInt8.ofNat (8 * n / 256 ^ (8 - j) % 256)) = .int .u8 (((8 * n / 256 ^ (8 - j) : Nat) : Int) % 256) := by
            have : (UInt8.ofNat (8 * n / 256 ^ (8 - j) % 256)).toNat = 8 * n / 256 ^ (8 - j) % 256 := by simp
            simp only [bv, this]
            congr 1
          rw [hbx] at hset
          have hdv : 8 * n / 256 ^ (8 - j) / 256 = 8 * n / 256 ^ (8 - (j - 1)) := by
            rw [Nat.div_div_eq_div_mul, ← Nat.pow_succ, show (8 - j).succ = 8 - (j - 1) by omega]
          have hxb : 8 * n / 256 ^ (8 - j) ≤ 8000000 := Nat.le_trans (Nat.div_le_self _ _) (by omega)
          have hfr := hhas.free (j - 1)
          obtain ⟨y, hy⟩ : ∃ y, (((List.replicate 8 0).take j ++ (eight (8 * n)).drop j).map bv)[j - 1]? = some y := ⟨_, List.getElem?_eq_getElem (by simp [eight_len]; omega)⟩
          have hcy := hhas.cell hy
          have hbs := hbel.setCell (p := ⟨g5, j - 1, none⟩) (Nat.le_refl _) (.int .u8 (((8 * n / 256 ^ (8 - j) : Nat) : Int) % 256))
          have hss : (wr.setCell ⟨g5, j - 1, none⟩ (.int .u8 (((8 * n / 256 ^ (8 - j) : Nat) : Int) % 256))).heap.size = w5.heap.size := by rw [← hsz]; simp [World.setCell]
          have HD := Lib.hid hdv
          have HS := Lib.hid hss
          clear hy hbx hdv hhas hss he hsz
          generalize 8 * n / 256 ^ (8 - j) = x at *
          have j1 : (1 : Int) ≤ (j : Int) := by omega
          have j2 : (j : Int) - 1 < 8 := by omega
          have j3 : ((j : Int) - 1).toNat = j - 1 := by omega
          go_wp2_with fail
          go_roundw
          case rel => exact ⟨j - 1, by omega, by rw [show ((j - 1 : Nat) : Int) = (j : Int) - 1 by omega], by rw [← HD.out]; rfl, hset, hbs, HS.out⟩
          case measure => simp [intOf]; omega
        · obtain rfl : j = 0 := by omega
          have hown6 := HO.out _ hbel
          have hg6 := HG.out _ hbel
          simp only [List.take_zero, List.nil_append, List.drop_zero] at hhas
          go_wp2_with (at_builtin; (refine wpList_append_src _ rfl (.tmp 36) (.tmp 37) _ rfl w.heap.size 5 i0 _ 1 Tryd.underlying22 hi0 hz0 hz1 hz2 rfl (.slice A' m c') m _ rfl hown6 _ _ 8 8 ((eight (8 * n)).map bv) rfl rfl hhas.lies (bv_one _) (by unfold maxLen; omega) (by omega) hg6.size ?_; intro v7 w7 hown7 hg7 hat7))
          have hb7 : Grows w w7 := hg6.grown hg7 hg6.size (own_ge hown6)
          rw [← List.map_append] at hown7
          have HP : padded bs = bs ++ [128] ++ List.replicate (gap n) 0 ++ eight (8 * n) := by unfold padded; rw [HL.out]
          rw [← HP] at hown7
          have HN : m + 8 = (padded bs).length := by rw [padded_len, HL.out, HM.out]; omega
          rw [HN] at hown7
          obtain ⟨g, c7, rfl, hc7, hgb, hh⟩ := own_range hown7 (by rw [← HN]; omega)
          go_ret
          exact ⟨g, c7, rfl, hc7, hh.cells, hb7⟩
end Go.Proofs.YtfpgnihibgmeeaaDoor
