/-
  Contracts, joined (ShaJ ShaC ShaD ShaI ShaK CutX IxC IxD IxE IxF IxG IxH).
-/
import Derived.Test.YtnokloedbckijaaDoorJ4
import Derived.Deep.OwnRows
import Derived.Deep.LoopGhost
import Derived.Test.YtnokloedbckijaaDoorJ2
import Derived.Test.YtnokloedbckijaaDoorJ3
import Derived.ArgAppend

/-
  Contracts of sha's State: New, Clone, Len, Write.
-/
namespace Go.Proofs.YtnokloedbckijaaDoor
open Go.RowKit
set_option linter.unusedVariables false
set_option maxRecDepth 20000

set_option maxRecDepth 100000 in
theorem zero_state (w : World) : (zeroValue 131).run Tryd.prog w = .ok (.agg #[.int .u32 0, .int .u32 0, .int .u32 0, .int .u32 0, .int .u32 0, .int .u32 0, .int .u32 0, .int .u32 0, .int .u8 0, .int .u8 0, .int .u8 0, .int .u8 0, .int .u8 0, .int .u8 0, .int .u8 0, .int .u8 0, .int .u8 0, .int .u8 0, .int .u8 0, .int .u8 0, .int .u8 0, .int .u8 0, .int .u8 0, .int .u8 0, .int .u8 0, .int .u8 0, .int .u8 0, .int .u8 0, .int .u8 0, .int .u8 0, .int .u8 0, .int .u8 0, .int .u8 0, .int .u8 0, .int .u8 0, .int .u8 0, .int .u8 0, .int .u8 0, .int .u8 0, .int .u8 0, .int .u8 0, .int .u8 0, .int .u8 0, .int .u8 0, .int .u8 0, .int .u8 0, .int .u8 0, .int .u8 0, .int .u8 0, .int .u8 0, .int .u8 0, .int .u8 0, .int .u8 0, .int .u8 0, .int .u8 0, .int .u8 0, .int .u8 0, .int .u8 0, .int .u8 0, .int .u8 0, .int .u8 0, .int .u8 0, .int .u8 0, .int .u8 0, .int .u8 0, .int .u8 0, .int .u8 0, .int .u8 0, .int .u8 0, .int .u8 0, .int .u8 0, .int .u8 0, .int .i64 0]) w := by kernel_rfl

set_option maxRecDepth 100000 in
set_option maxHeartbeats 1000000 in
theorem new_any (w : World) : Calls Tryd.prog 74 #[] w fun e w' => e = .returned (.pointer (some ⟨w.heap.size, 0, none⟩)) ∧ Hold w' w.heap.size [] ∧ Grows w w' := by
  have hN := Has.new w 131 (start8.list.map uv ++ ((List.replicate 64 (0 : UInt8)).map bv ++ [Value.int .i64 ((0 : Nat) : Int)]))
  have hg := grows_alloc w (.cells (start8.list.map uv ++ ((List.replicate 64 (0 : UInt8)).map bv ++ [Value.int .i64 ((0 : Nat) : Int)])).toArray 131)
  have hz := zero_state
  go_enter Tryd.func74, Tryd.ntmps74
  go_wp2
  go_ret
  exact ⟨rfl, ⟨_, ⟨hN, rfl⟩, rfl⟩, hg⟩

set_option maxRecDepth 100000 in
set_option maxHeartbeats 1000000 in
theorem clone_any (b : Nat) (l : List UInt8) (w : World) (hh : Hold w b l) :
    Calls Tryd.prog 92 #[.pointer (some ⟨b, 0, none⟩)] w fun e w' => e = .returned (.pointer (some ⟨w.heap.size, 0, none⟩)) ∧ Hold w' w.heap.size l ∧ Grows w w' := by
  obtain ⟨blk, hst, hp⟩ := hh
  have hn : (((through l (l.length / 64)).list.map uv ++ (blk.map bv ++ [Value.int .i64 (l.length : Int)]))).length = 73 := by simp [v8_len, hst.blen]
  have hld := hst.has.load Tryd.underlying131 rfl (by rw [hn]; exact state_size)
  have h1 : ∀ u ∈ ((through l (l.length / 64)).list.map uv ++ (blk.map bv ++ [Value.int .i64 (l.length : Int)])), u.oneCell' = true := fun u hu => by
    rcases List.mem_append.1 hu with h | h
    · exact uv_one _ u h
    · rcases List.mem_append.1 h with h | h
      · exact bv_one _ u h
      · obtain rfl := List.mem_singleton.1 h; rfl
  have hbl := hst.blen
  have HST : ∀ w', Has w' w.heap.size ((through l (l.length / 64)).list.map uv ++ (blk.map bv ++ [Value.int .i64 (l.length : Int)])) → Hold w' w.heap.size l := fun w' h => ⟨blk, ⟨h, hbl⟩, hp⟩
  have HH := Lib.hid HST
  have HN := Lib.hid hn
  clear HST hn hst hp hbl
  generalize (through l (l.length / 64)).list.map uv ++ (blk.map bv ++ [Value.int .i64 (l.length : Int)]) = cs at *
  have hN := Has.new w 131 ((List.replicate 8 0).map uv ++ ((List.replicate 64 (0 : UInt8)).map bv ++ [Value.int .i64 0]))
  have hg := grows_alloc w (.cells ((List.replicate 8 0).map uv ++ ((List.replicate 64 (0 : UInt8)).map bv ++ [Value.int .i64 0])).toArray 131)
  have hz := zero_state
  go_enter Tryd.func92, Tryd.ntmps92
  go_wp2_with (first | (with_reducible refine wpList_loads rfl 131 (.tmp 5) rfl _ rfl _ hld ?_) | (refine wpList_storev rfl 131 (.tmp 3) (.tmp 6) rfl w.heap.size ((List.replicate 8 0).map uv ++ ((List.replicate 64 (0 : UInt8)).map bv ++ [Value.int .i64 0])) cs 73 rfl rfl hN rfl HN.out state_size h1 ?_; intro w6 hbox6 hbel6))
  go_ret
  exact ⟨rfl, HH.out _ hbox6, hbel6 _ _ (Nat.le_refl _) hg⟩

/-- The cells vs lie at A, in no cell of block b. -/
def Off (w : World) (b : Nat) (A : Option Addr) (vs : List Value) : Prop := ∀ j u, vs[j]? = some u → ∃ ad, A = some ad ∧ ad.block ≠ b ∧ w.cell? (ad.add j) = some u
theorem Off.but {w w' : World} {b : Nat} {A : Option Addr} {vs : List Value} (h : Off w b A vs) (hb : But b w w') : Off w' b A vs := fun j u hu => by
  obtain ⟨ad, e, hne, hc⟩ := h j u hu
  exact ⟨ad, e, hne, hb.cell hc (fun e => by rw [add_block] at e; exact hne (Option.some.inj e))⟩

set_option maxRecDepth 100000 in
set_option maxHeartbeats 1000000 in
theorem write_any (b : Nat) (l : List UInt8) (A : Option Addr) (n c : Nat) (bs : List UInt8) (w : World) (hk : Keys w) (hb0 : 1 < b) (hh : Hold w b l) (hl : bs.length = n) (hr : Off w b A (bs.map bv)) (hn : l.length + n ≤ 1000000) :
    Calls Tryd.prog 75 #[.pointer (some ⟨b, 0, none⟩), .slice A n c] w fun e w' => e = .returned (.tuple #[]) ∧ Hold w' b (l ++ bs) ∧ But b w w' := by
  have HL := Lib.hid hl
  have HK := Lib.hid hk
  have HR := Lib.hid hr
  clear hl hk hr
  go_enter Tryd.func75, Tryd.ntmps75
  go_wp2_with fail
  go_loopw [8] (fun i wr => ∃ k : Nat, k ≤ n ∧ i = .int .i64 k ∧ Hold wr b (l ++ bs.take k) ∧ But b w wr) (fun i _ => n - (intOf i).toNat)
  case atStart => exact ⟨0, Nat.zero_le _, rfl, by simpa using hh, But.refl _ _⟩
  case round =>
    clear hh
    obtain ⟨k, hk, rfl, hhold, hbut⟩ := hrel
    by_cases hlt : k < n
    · obtain ⟨x, hx⟩ : ∃ x, bs[k]? = some x := ⟨_, List.getElem?_eq_getElem (by rw [HL.out]; exact hlt)⟩
      obtain ⟨ad, rfl, hne, hcell⟩ := HR.out.but hbut k (bv x) (by rw [List.getElem?_map, hx]; rfl)
      have HX := Lib.hid (show l ++ bs.take (k + 1) = l ++ bs.take k ++ [x] by rw [List.take_add_one, hx, List.append_assoc]; rfl)
      have HLEN : Hid ((l ++ bs.take k).length ≤ 1000000000) := by show _ ≤ _; rw [List.length_append, List.length_take]; omega
      clear hx
      have HH := Lib.hid hhold
      have HB := Lib.hid hbut
      clear hhold hbut
      go_wp2_with fail
      refine (put_any b (l ++ bs.take k) x wr (HK.out.but HB.out hb0) hb0 HH.out HLEN.out).mono ?_
      rintro e w2 ⟨rfl, hh2, hb2⟩
      rw [← HX.out] at hh2
      have hb2' := HB.out.trans hb2
      clear hb2
      go_wp2_with fail
      go_roundw
      case rel => exact ⟨k + 1, by omega, by go_num, hh2, hb2'⟩
      case measure => simp [intOf]; omega
    · obtain rfl : k = n := by omega
      rw [List.take_of_length_le (by rw [HL.out]; omega)] at hhold
      go_wp2_with fail
      go_end0
      exact ⟨rfl, hhold, hbut⟩
end Go.Proofs.YtnokloedbckijaaDoor

/-
  Contracts of the reference's whole and Sum (layer 2): the bytes with what stands behind them, and their digest. Condition: at most a million bytes.
-/
namespace Go.Proofs.YtnokloedbckijaaDoor
open Go.RowKit
set_option linter.unusedVariables false
set_option maxRecDepth 20000

theorem byte_info2 : (Tryd.prog.info? 5).map (fun i => (i.zero, i.size, i.bytes)) = some (some (.int .u8 0), 1, 1) := by kernel_rfl
def shaLenV : Value → Nat
  | .slice _ n _ => n
  | _ => 0
theorem made_bytes (n : Nat) : ((List.replicate n (0 : UInt8)).map bv).toArray = madeCells #[.int .u8 0] n := by
  apply Array.ext'
  rw [toList_madeCells_one]
  simp [bv]
theorem gap_lt (n : Nat) : gap n < 64 := Nat.mod_lt _ (by decide)
theorem eight_at (N j : Nat) (h0 : 0 < j) (hj : j ≤ 8) : (eight N)[j - 1]? = some (UInt8.ofNat (N / 256 ^ (8 - j) % 256)) := by
  match j, h0, hj with
  | 1, _, _ => rfl
  | 2, _, _ => rfl
  | 3, _, _ => rfl
  | 4, _, _ => rfl
  | 5, _, _ => rfl
  | 6, _, _ => rfl
  | 7, _, _ => rfl
  | 8, _, _ => simp [eight]
theorem back_set {α : Type} (z e : List α) (j : Nat) (x : α) (h0 : 0 < j) (hx : e[j - 1]? = some x) (hz : j ≤ z.length) : (z.take j ++ e.drop j).set (j - 1) x = z.take (j - 1) ++ e.drop (j - 1) := by
  obtain ⟨i, rfl⟩ : ∃ i, j = i + 1 := ⟨j - 1, by omega⟩
  simp only [Nat.add_sub_cancel] at *
  have hi : i < e.length := (List.getElem?_eq_some_iff.1 hx).1
  have ex : x = e[i] := by rw [List.getElem?_eq_getElem hi] at hx; injection hx with hx; exact hx.symm
  rw [List.set_append_left _ _ (by simp; omega), List.take_succ_eq_append_getElem (by omega), List.set_append_right _ _ (by simp; omega), List.drop_eq_getElem_cons hi, ex]
  simp [Nat.min_eq_left (show i ≤ z.length by omega)]

set_option maxHeartbeats 1000000 in
theorem whole_any (A : Option Addr) (n c : Nat) (bs : List UInt8) (w : World) (hl : bs.length = n) (hr : Lies w w.heap.size A (bs.map bv)) (hn : n ≤ 1000000) :
    Calls Tryd.prog 77 #[.slice A n c] w fun e w' => ∃ g c', e = .returned (.slice (some ⟨g, 0, none⟩) (padded bs).length c') ∧ (padded bs).length ≤ c' ∧ w'.rangeAt g 0 ((padded bs).map bv) ∧ Grows w w' := by
  obtain ⟨i0, hi0, hz0, hz1, hz2⟩ := info_parts byte_info2
  have HL := Lib.hid hl
  clear hl
  go_enter Tryd.func77, Tryd.ntmps77
  go_wp2_with (at_builtin; (first
    | (refine wpList_append_src _ rfl (.tmp 7) (.tmp 8) _ rfl w.heap.size 5 i0 _ 1 Tryd.underlying22 hi0 hz0 hz1 hz2 rfl (.slice none 0 0) 0 [] rfl (World.ownsRow_nil _ _ _ _) w.heap.size A n c (bs.map bv) rfl (by rw [List.length_map]; exact HL.out) hr (bv_one bs) (by unfold maxLen; omega) (by omega) (Nat.le_refl _) ?_; intro v1 w1 hown1 hg1 hat1; rw [Nat.zero_add, List.nil_append] at hown1; have hb1 : Grows w w1 := (Grows.refl w).grown hg1 (Nat.le_refl _) (by simp [Value.ownBlock]))
    | (refine wpList_append_src _ rfl (.tmp 10) (.tmp 11) _ rfl w.heap.size 5 i0 _ 1 Tryd.underlying22 hi0 hz0 hz1 hz2 rfl v1 n _ rfl (hown1.alloc _) _ _ 1 1 [bv 128] rfl rfl (Lies.new w1 5 [bv 128]) (by simp [Value.oneCell']) (by unfold maxLen; omega) (by omega) (by have := hb1.size; simp; omega) ?_; intro v2 w2 hown2 hg2 hat2)))
  have hb2 : Grows w w2 := (hb1.alloc hb1.size _).grown hg2 (by have := hb1.size; simp; omega) (own_ge hown1)
  rw [show [bv 128] = [(128 : UInt8)].map bv from rfl, ← List.map_append] at hown2
  clear hown1 hg1 hat1 hb1 hg2 hat2
  go_loopw [3] (fun t wr => ∃ j m : Nat, j ≤ gap n ∧ m = n + 1 + j ∧ wr.ownsRow w.heap.size 5 1 t m ((bs ++ [128] ++ List.replicate j 0).map bv) ∧ Grows w wr) (fun t _ => n + 1 + gap n - shaLenV t)
  case atStart => exact ⟨0, n + 1, Nat.zero_le _, rfl, by simpa using hown2, hb2⟩
  case round =>
    clear hown2 hb2
    obtain ⟨j, m, hj, hm, hown, hbel⟩ := hrel
    obtain ⟨A', c', rfl, hmc⟩ := own_form hown
    have hgl := gap_lt n
    by_cases hlt : j < gap n
    · have o1 : ((m : Int) % 64 == 56) = false := by simp; unfold gap at hlt; omega
      have o2 : ((m : Int) % 64 != 56) = true := by simp; unfold gap at hlt; omega
      have HM := Lib.hid hm
      have hm1 : m ≤ 2000000 := by omega
      clear hm
      go_wp2_with (at_builtin; refine wpList_append_src _ rfl (.tmp 17) (.tmp 18) _ rfl w.heap.size 5 i0 _ 1 Tryd.underlying22 hi0 hz0 hz1 hz2 rfl (.slice A' m c') m _ rfl (hown.alloc _) _ _ 1 1 [bv 0] rfl rfl (Lies.new wr 5 [bv 0]) (by simp [Value.oneCell']) (by unfold maxLen; omega) (by omega) (by have := hbel.size; simp; omega) ?_; intro v2 w2 hown2 hg2 hat2)
      have hb2 : Grows w w2 := (hbel.alloc hbel.size _).grown hg2 (by have := hbel.size; simp; omega) (own_ge hown)
      rw [show [bv 0] = [(0 : UInt8)].map bv from rfl, ← List.map_append, List.append_assoc, ← List.replicate_succ'] at hown2
      obtain ⟨A2, c2, rfl, hmc2⟩ := own_form hown2
      go_roundw
      case rel => exact ⟨j + 1, m + 1, by omega, by have := HM.out; omega, hown2, hb2⟩
      case measure => have := HM.out; simp [shaLenV]; omega
    · obtain rfl : j = gap n := by omega
      have o1 : ((m : Int) % 64 == 56) = true := by simp; unfold gap at hm; omega
      have o2 : ((m : Int) % 64 != 56) = false := by simp; unfold gap at hm; omega
      have HM := Lib.hid hm
      have hm1 : m ≤ 2000000 := by omega
      clear hm hlt
      have hN := Has.new wr 5 ((List.replicate 8 0).map bv)
      have hgN := grows_alloc wr (.cells ((List.replicate 8 0).map bv).toArray 5)
      have hownN : ∀ w', Below wr.heap.size (wr.alloc (.cells ((List.replicate 8 0).map bv).toArray 5)) w' → w'.ownsRow w.heap.size 5 1 (.slice A' m c') m ((bs ++ [128] ++ List.replicate (gap n) 0).map bv) := fun w' h => own_later hown (Below.trans hgN h)
      have hrN : ∀ w', Below wr.heap.size (wr.alloc (.cells ((List.replicate 8 0).map bv).toArray 5)) w' → Grows w w' := fun w' h => Grows.trans hbel (Below.trans hgN h)
      have hz8 : wr.heap.size < (wr.alloc (.cells ((List.replicate 8 0).map bv).toArray 5)).heap.size := by simp
      have hg8 : w.heap.size ≤ wr.heap.size := hbel.size
      rw [made_bytes 8] at hN hownN hrN hz8
      go_wp2_with (at_make; (refine wpList_make_row _ rfl _ _ _ rfl 5 i0 _ Tryd.underlying22 hi0 hz0 hz1 rfl .i64 .i64 8 rfl rfl (by rw [hz2]; omega) (by omega) ?_))
      clear hown hbel hgN
      generalize wr.alloc (.cells (madeCells #[.int .u8 0] 8) 5) = w5 at *
      generalize wr.heap.size = g5 at *
      have HO := Lib.hid hownN
      have HG := Lib.hid hrN
      clear hownN hrN
      go_loopw [4, 6] (fun t i wr => ∃ j : Nat, j ≤ 8 ∧ i = .int .i64 ((j : Int) - 1) ∧ t = .int .i64 ((8 * n / 256 ^ (8 - j) : Nat) : Int) ∧ Has wr g5 (((List.replicate 8 0).take j ++ (eight (8 * n)).drop j).map bv) ∧ Below g5 w5 wr ∧ wr.heap.size = w5.heap.size) (fun _ i _ => (intOf i + 1).toNat)
      case atStart => exact ⟨8, by omega, rfl, by simp, hN, Below.refl _ _, rfl⟩
      case round =>
        clear hN
        obtain ⟨j, hj, rfl, rfl, hhas, hbel, hsz⟩ := hrel
        by_cases hlt : 0 < j
        · have he := eight_at (8 * n) j hlt hj
          have hset := hhas.set_ (k := j - 1) (by simp [eight_len]; omega) (bv (UInt8.ofNat (8 * n / 256 ^ (8 - j) % 256)))
          rw [← List.map_set, back_set _ _ j _ hlt he (by simp; omega)] at hset
          have hbx : bv (UInt8.ofNat (8 * n / 256 ^ (8 - j) % 256)) = .int .u8 (((8 * n / 256 ^ (8 - j) : Nat) : Int) % 256) := by
            have : (UInt8.ofNat (8 * n / 256 ^ (8 - j) % 256)).toNat = 8 * n / 256 ^ (8 - j) % 256 := by simp
            simp only [bv, this]
            congr 1
          rw [hbx] at hset
          have hdv : 8 * n / 256 ^ (8 - j) / 256 = 8 * n / 256 ^ (8 - (j - 1)) := by
            rw [Nat.div_div_eq_div_mul, ← Nat.pow_succ, show (8 - j).succ = 8 - (j - 1) by omega]
          have hxb : 8 * n / 256 ^ (8 - j) ≤ 8000000 := Nat.le_trans (Nat.div_le_self _ _) (by omega)
          have hfr := hhas.free (j - 1)
          obtain ⟨y, hy⟩ : ∃ y, (((List.replicate 8 0).take j ++ (eight (8 * n)).drop j).map bv)[j - 1]? = some y := ⟨_, List.getElem?_eq_getElem (by simp [eight_len]; omega)⟩
          have hcy := hhas.cell hy
          have hbs := hbel.setCell (p := ⟨g5, j - 1, none⟩) (Nat.le_refl _) (.int .u8 (((8 * n / 256 ^ (8 - j) : Nat) : Int) % 256))
          have hss : (wr.setCell ⟨g5, j - 1, none⟩ (.int .u8 (((8 * n / 256 ^ (8 - j) : Nat) : Int) % 256))).heap.size = w5.heap.size := by rw [← hsz]; simp [World.setCell]
          have HD := Lib.hid hdv
          have HS := Lib.hid hss
          clear hy hbx hdv hhas hss he hsz
          generalize 8 * n / 256 ^ (8 - j) = x at *
          have j1 : (1 : Int) ≤ (j : Int) := by omega
          have j2 : (j : Int) - 1 < 8 := by omega
          have j3 : ((j : Int) - 1).toNat = j - 1 := by omega
          go_wp2_with fail
          go_roundw
          case rel => exact ⟨j - 1, by omega, by rw [show ((j - 1 : Nat) : Int) = (j : Int) - 1 by omega], by rw [← HD.out]; rfl, hset, hbs, HS.out⟩
          case measure => simp [intOf]; omega
        · obtain rfl : j = 0 := by omega
          have hown6 := HO.out _ hbel
          have hg6 := HG.out _ hbel
          simp only [List.take_zero, List.nil_append, List.drop_zero] at hhas
          go_wp2_with (at_builtin; (refine wpList_append_src _ rfl (.tmp 36) (.tmp 37) _ rfl w.heap.size 5 i0 _ 1 Tryd.underlying22 hi0 hz0 hz1 hz2 rfl (.slice A' m c') m _ rfl hown6 _ _ 8 8 ((eight (8 * n)).map bv) rfl rfl hhas.lies (bv_one _) (by unfold maxLen; omega) (by omega) hg6.size ?_; intro v7 w7 hown7 hg7 hat7))
          have hb7 : Grows w w7 := hg6.grown hg7 hg6.size (own_ge hown6)
          rw [← List.map_append] at hown7
          have HP : padded bs = bs ++ [128] ++ List.replicate (gap n) 0 ++ eight (8 * n) := by unfold padded; rw [HL.out]
          rw [← HP] at hown7
          have HN : m + 8 = (padded bs).length := by rw [padded_len, HL.out, HM.out]; omega
          rw [HN] at hown7
          obtain ⟨g, c7, rfl, hc7, hgb, hh⟩ := own_range hown7 (by rw [← HN]; omega)
          go_ret
          exact ⟨g, c7, rfl, hc7, hh.cells, hb7⟩
end Go.Proofs.YtnokloedbckijaaDoor

/-
  Contract of the reference's Sum (layer 2): the digest of bytes. Condition: at most a million bytes.
-/
namespace Go.Proofs.YtnokloedbckijaaDoor
open Go.RowKit
set_option linter.unusedVariables false
set_option maxRecDepth 20000

theorem bytesOf_at (v : V8) (i : Nat) (hi : i < 32) : (bytesOf v)[i]? = some (UInt8.ofNat (v.list.getD (i / 4) 0 / 256 ^ (3 - i % 4) % 256)) := by
  match i, hi with
  | 0, _ => simp [bytesOf, V8.list, four]
  | 1, _ => simp [bytesOf, V8.list, four]
  | 2, _ => simp [bytesOf, V8.list, four]
  | 3, _ => simp [bytesOf, V8.list, four]
  | 4, _ => simp [bytesOf, V8.list, four]
  | 5, _ => simp [bytesOf, V8.list, four]
  | 6, _ => simp [bytesOf, V8.list, four]
  | 7, _ => simp [bytesOf, V8.list, four]
  | 8, _ => simp [bytesOf, V8.list, four]
  | 9, _ => simp [bytesOf, V8.list, four]
  | 10, _ => simp [bytesOf, V8.list, four]
  | 11, _ => simp [bytesOf, V8.list, four]
  | 12, _ => simp [bytesOf, V8.list, four]
  | 13, _ => simp [bytesOf, V8.list, four]
  | 14, _ => simp [bytesOf, V8.list, four]
  | 15, _ => simp [bytesOf, V8.list, four]
  | 16, _ => simp [bytesOf, V8.list, four]
  | 17, _ => simp [bytesOf, V8.list, four]
  | 18, _ => simp [bytesOf, V8.list, four]
  | 19, _ => simp [bytesOf, V8.list, four]
  | 20, _ => simp [bytesOf, V8.list, four]
  | 21, _ => simp [bytesOf, V8.list, four]
  | 22, _ => simp [bytesOf, V8.list, four]
  | 23, _ => simp [bytesOf, V8.list, four]
  | 24, _ => simp [bytesOf, V8.list, four]
  | 25, _ => simp [bytesOf, V8.list, four]
  | 26, _ => simp [bytesOf, V8.list, four]
  | 27, _ => simp [bytesOf, V8.list, four]
  | 28, _ => simp [bytesOf, V8.list, four]
  | 29, _ => simp [bytesOf, V8.list, four]
  | 30, _ => simp [bytesOf, V8.list, four]
  | 31, _ => simp [bytesOf, V8.list, four]
  | i + 32, hi => omega
theorem dig_size2 : (Tryd.prog.info? 42).map (·.size) = some 32 := by kernel_rfl
def zeros32 : List UInt8 := List.replicate 32 0
theorem zeros32_len : zeros32.length = 32 := rfl

set_option maxHeartbeats 1000000 in
theorem rsum_any (A : Option Addr) (n c : Nat) (bs : List UInt8) (w : World) (hl : bs.length = n) (hr : Lies w w.heap.size A (bs.map bv)) (hn : n ≤ 1000000) :
    Calls Tryd.prog 50 #[.slice A n c] w fun e w' => e = .returned (dv (shaOf bs)) ∧ Grows w w' := by
  have HL := Lib.hid hl
  clear hl
  have hbox := Has.new w 42 (zeros32.map bv)
  have hg0 := grows_alloc w (.cells (zeros32.map bv).toArray 42)
  have hr0 := hr.later hg0
  have hsz0 : (w.alloc (.cells (zeros32.map bv).toArray 42)).heap.size = w.heap.size + 1 := by simp
  have hH := Has.new (w.alloc (.cells (zeros32.map bv).toArray 42)) 93 (start8.list.map uv)
  have hg1 := grows_alloc (w.alloc (.cells (zeros32.map bv).toArray 42)) (.cells (start8.list.map uv).toArray 93)
  have hr1 := hr0.later hg1
  have hbox1 := hbox.later hg1
  have hg01 := Grows.trans hg0 hg1
  rw [hsz0] at hH
  clear hr hbox hr0 hg0 hg1 hsz0
  go_enter Tryd.func50, Tryd.ntmps50
  go_wp2_with fail
  change Calls _ _ _ ((w.alloc (.cells (zeros32.map bv).toArray 42)).alloc (.cells (start8.list.map uv).toArray 93)) _
  generalize (w.alloc (.cells (zeros32.map bv).toArray 42)).alloc (.cells (start8.list.map uv).toArray 93) = w1 at *
  refine (whole_any A n c bs w1 HL.out hr1 hn).mono ?_
  rintro e w2 ⟨g0, c0, rfl, hc0, hP, hg2⟩
  have hbox2 := hbox1.later hg2
  have hH2 := hH.cells
  have hH3 := range_later hH2 hg2
  have hg02 := Grows.trans hg01 hg2
  have HS := Lib.hid (show shaOf bs = bytesOf (through (padded bs) ((padded bs).length / 64)) from rfl)
  have hmod := padded_mod bs
  have hle := padded_len bs
  have hgl := gap_lt bs.length
  rw [HL.out] at hle hgl
  obtain ⟨K, hK⟩ : ∃ K, (padded bs).length = 64 * K := ⟨(padded bs).length / 64, by omega⟩
  rw [show (padded bs).length / 64 = K by omega] at HS
  have hK1 : K ≤ 100000 := by omega
  have HK := Lib.hid hK
  rw [hK] at hc0 ⊢
  clear hH hH2 hbox1 hr1 hg2 hg01 hmod hle hgl hK
  generalize padded bs = pd at *
  go_wp2_with fail
  go_loopw [3, 5] (fun t i wr => ∃ k : Nat, k ≤ K ∧ i = .int .i64 (64 * (k : Int)) ∧ ∃ g c, t = .slice (some ⟨g, 0, none⟩) 8 c ∧ wr.rangeAt g 0 ((through pd k).list.map uv) ∧ Grows w2 wr) (fun _ i _ => 64 * K - (intOf i).toNat)
  case atStart => exact ⟨0, Nat.zero_le _, rfl, _, _, rfl, hH3, Grows.refl _⟩
  case round =>
    clear hH3
    obtain ⟨k, hk, rfl, g, cg, rfl, hh, hgr⟩ := hrel
    by_cases hlt : k < K
    · have hPk : wr.rangeAt g0 (64 * k) (((pd.drop (64 * k)).take 64).map bv) := by
        have h1 := range_later hP hgr
        intro j u hu
        have h2 := h1 (64 * k + j) u (by
          rw [List.map_take, List.getElem?_take] at hu
          split at hu
          · rw [List.map_drop, List.getElem?_drop] at hu
            exact hu
          · cases hu)
        rwa [Nat.zero_add] at h2
      have HBL : Hid (((pd.drop (64 * k)).take 64).length = 64) := by
        show _ = _
        rw [List.length_take, List.length_drop, HK.out]
        omega
      have HT := Lib.hid (show through pd (k + 1) = mix (through pd k) ((pd.drop (64 * k)).take 64) from rfl)
      have hOk := through_ok pd k
      have k1 : (64 : Int) * (k : Int) + 64 ≤ (c0 : Int) := by omega
      have k2 : (64 : Int) * (k : Int) < 64 * (K : Int) := by omega
      go_wp2_with fail
      refine (block_any (through pd k) g cg g0 (64 * k) _ _ wr hOk hh HBL.out hPk).mono ?_
      rintro e w3 ⟨g', c', rfl, hh', hg'⟩
      rw [← HT.out] at hh'
      clear hPk hOk
      go_wp2_with fail
      go_roundw
      case rel => exact ⟨k + 1, by omega, by first | (congr 1; done) | (congr 1; omega), g', c', rfl, hh', Grows.trans hgr hg'⟩
      case measure => simp [intOf]; omega
    · obtain rfl : k = K := by omega
      have hbox3 := hbox2.later hgr
      have hg03 := Grows.trans hg02 hgr
      have hOk := through_ok pd k
      clear hbox2 hg02 hP hgr
      have hN := Has.new wr 42 (zeros32.map bv)
      have hgN := grows_alloc wr (.cells (zeros32.map bv).toArray 42)
      have hszN : wr.heap.size < (wr.alloc (.cells (zeros32.map bv).toArray 42)).heap.size := by simp
      have hhN := range_later hh hgN
      have hboxN := hbox3.later hgN
      have hg0N := Grows.trans hg03 hgN
      have hwlt : w.heap.size < wr.heap.size := hbox3.lt
      have hglt : g < wr.heap.size := World.block_lt_of_cell? wr ⟨g, 0 + 0, none⟩ (hh 0 _ rfl)
      have hD := bytesOf_at (through pd k)
      have hDl := bytesOf_len (through pd k)
      have hVl : (through pd k).list.length = 8 := rfl
      have hVb : ∀ x ∈ (through pd k).list, x < 4294967296 := by
        intro x hx
        simp only [V8.list, List.mem_cons, List.not_mem_nil, or_false] at hx
        obtain ⟨a1, a2, a3, a4, a5, a6, a7, a8⟩ := hOk
        rcases hx with rfl | rfl | rfl | rfl | rfl | rfl | rfl | rfl <;> assumption
      go_wp2_with fail
      change Code.wp _ _ _ _ (wr.alloc (.cells (zeros32.map bv).toArray 42))
      clear hh hbox3 hg03 hgN hOk
      generalize wr.alloc (.cells (zeros32.map bv).toArray 42) = w4 at *
      generalize wr.heap.size = gd at *
      generalize bytesOf (through pd k) = dg at *
      generalize (through pd k).list = vl at *
      have HD := Lib.hid hD
      have HDL := Lib.hid hDl
      have HVL := Lib.hid hVl
      have HVB := Lib.hid hVb
      clear hD hDl hVl hVb
      go_loopw [7] (fun i wr => ∃ i' : Nat, i' ≤ 32 ∧ i = .int .i64 i' ∧ Has wr gd ((dg.take i' ++ zeros32.drop i').map bv) ∧ Below gd w4 wr) (fun i _ => 32 - (intOf i).toNat)
      case atStart => exact ⟨0, Nat.zero_le _, rfl, hN, Below.refl _ _⟩
      case round =>
        clear hN
        obtain ⟨i, hi, rfl, hhas, hbel⟩ := hrel
        by_cases hlt : i < 32
        · have hcx := uv_at (range_below hhN hbel hglt) (i / 4) (by rw [HVL.out]; omega)
          rw [Nat.zero_add] at hcx
          have hxb := getD_lt HVB.out (by omega) (i / 4)
          have hd := HD.out i hlt
          have hset := hhas.set_ (k := i) (by simp [HDL.out, zeros32_len]; omega) (bv (UInt8.ofNat (vl.getD (i / 4) 0 / 256 ^ (3 - i % 4) % 256)))
          rw [← List.map_set, mid_set dg zeros32 i _ hd (by rw [zeros32_len]; exact hlt)] at hset
          have hbx : bv (UInt8.ofNat (vl.getD (i / 4) 0 / 256 ^ (3 - i % 4) % 256)) = .int .u8 (((vl.getD (i / 4) 0 / 256 ^ (3 - i % 4) : Nat) : Int) % 256) := by
            have : (UInt8.ofNat (vl.getD (i / 4) 0 / 256 ^ (3 - i % 4) % 256)).toNat = vl.getD (i / 4) 0 / 256 ^ (3 - i % 4) % 256 := by simp
            simp only [bv, this]
            congr 1
          rw [hbx] at hset
          have hfr := hhas.free i
          obtain ⟨y, hy⟩ : ∃ y, ((dg.take i ++ zeros32.drop i).map bv)[i]? = some y := ⟨_, List.getElem?_eq_getElem (by simp [HDL.out, zeros32_len]; omega)⟩
          have hcy := hhas.cell hy
          have hbs := hbel.setCell (p := ⟨gd, i, none⟩) (Nat.le_refl _) (.int .u8 (((vl.getD (i / 4) 0 / 256 ^ (3 - i % 4) : Nat) : Int) % 256))
          clear hy hbx hd hhas hbel
          generalize vl.getD (i / 4) 0 = X at *
          have i1 : (i : Int) / 4 < 8 := by omega
          have i2 : ((i : Int) / 4).toNat = i / 4 := by omega
          have i3 : (i : Int) < 32 := by omega
          go_wp2_with fail
          go_loopw [8, 9] (fun x j wr' => ∃ j' : Nat, i % 4 ≤ j' ∧ j' ≤ 3 ∧ j = .int .i64 j' ∧ x = .int .u32 ((X / 256 ^ (j' - i % 4) : Nat) : Int) ∧ wr' = wr) (fun _ j _ => 3 - (intOf j).toNat)
          case atStart => exact ⟨i % 4, by omega, by omega, by rfl, by simp, rfl⟩
          case round =>
            obtain ⟨j, hj0, hj1, rfl, rfl, rfl⟩ := hrel
            by_cases hj : j < 3
            · have HX := Lib.hid (show X / 256 ^ (j - i % 4) / 256 = X / 256 ^ (j + 1 - i % 4) by rw [Nat.div_div_eq_div_mul, ← Nat.pow_succ, show (j - i % 4).succ = j + 1 - i % 4 by omega])
              have hxb' : X / 256 ^ (j - i % 4) < 4294967296 := Nat.lt_of_le_of_lt (Nat.div_le_self _ _) hxb
              generalize X / 256 ^ (j - i % 4) = x at *
              go_wp2_with fail
              go_roundw
              case rel => exact ⟨j + 1, by omega, by omega, by go_num, by rw [← HX.out]; rfl, by trivial⟩
              case measure => simp [intOf]; omega
            · obtain rfl : j = 3 := by omega
              rw [show ((3 : Nat) : Int) = 3 from rfl]
              have hxb' : X / 256 ^ (3 - i % 4) < 4294967296 := Nat.lt_of_le_of_lt (Nat.div_le_self _ _) hxb
              generalize X / 256 ^ (3 - i % 4) = x at *
              go_wp2_with fail
              go_roundw
              case rel => exact ⟨i + 1, by omega, by go_num, hset, hbs⟩
              case measure => simp [intOf]; omega
        · obtain rfl : i = 32 := by omega
          rw [List.take_of_length_le (by rw [HDL.out]; omega), List.drop_of_length_le (by rw [zeros32_len]; omega), List.append_nil] at hhas
          have hld := hhas.load Tryd.underlying42 rfl (by rw [List.length_map, HDL.out]; exact dig_size2)
          have hboxZ := hboxN.below hbel hwlt
          go_wp2_with (first | (with_reducible refine wpList_loads rfl 42 (.tmp 6) rfl _ rfl _ hld ?_) | (refine wpList_storev rfl 42 (.tmp 2) (.tmp 48) rfl w.heap.size (zeros32.map bv) (dg.map bv) 32 rfl rfl hboxZ (by rw [List.length_map]; rfl) (by rw [List.length_map]; exact HDL.out) dig_size2 (bv_one dg) ?_; intro w6 hbox6 hbel6))
          have hfin := hbel6 _ _ (Nat.le_refl _) (Below.trans hg0N (hbel.mono (Nat.le_of_lt hwlt)))
          rw [← HS.out] at hbox6
          refine bodyPost_ret (v := dv (shaOf bs)) (res_has Tryd.results50 _ rfl Tryd.underlying42 rfl (by rw [List.length_map, shaOf_len]; exact dig_size2) hbox6) rfl ⟨rfl, hfin⟩
end Go.Proofs.YtnokloedbckijaaDoor

/-
  Contract of sha.digest: the words' bytes.
-/
namespace Go.Proofs.YtnokloedbckijaaDoor
open Go.RowKit
set_option linter.unusedVariables false
set_option maxRecDepth 20000

theorem four_at (v : V8) (k : Nat) (hk : k < 8) :
    (bytesOf v)[4 * k]? = some (UInt8.ofNat (v.list.getD k 0 / 16777216 % 256)) ∧ (bytesOf v)[4 * k + 1]? = some (UInt8.ofNat (v.list.getD k 0 / 65536 % 256)) ∧
    (bytesOf v)[4 * k + 2]? = some (UInt8.ofNat (v.list.getD k 0 / 256 % 256)) ∧ (bytesOf v)[4 * k + 3]? = some (UInt8.ofNat (v.list.getD k 0 % 256)) := by
  match k, hk with
  | 0, _ => simp [bytesOf, V8.list, four]
  | 1, _ => simp [bytesOf, V8.list, four]
  | 2, _ => simp [bytesOf, V8.list, four]
  | 3, _ => simp [bytesOf, V8.list, four]
  | 4, _ => simp [bytesOf, V8.list, four]
  | 5, _ => simp [bytesOf, V8.list, four]
  | 6, _ => simp [bytesOf, V8.list, four]
  | 7, _ => simp [bytesOf, V8.list, four]
theorem byte_of (x : Nat) : bv (UInt8.ofNat (x % 256)) = .int .u8 ((x : Int) % 256) := by
  have : (UInt8.ofNat (x % 256)).toNat = x % 256 := by simp
  simp only [bv, this]
  congr 1

set_option maxRecDepth 100000 in
set_option maxHeartbeats 1000000 in
theorem digest_of (v : V8) (w : World) (hv : v.Ok) :
    Calls Tryd.prog 93 #[.agg (v.list.map uv).toArray] w fun e w' => e = .returned (dv (bytesOf v)) ∧ Grows w w' := by
  obtain ⟨hA, hR, hD, hg⟩ := three w (v.list.map uv) (zeros32.map bv) (zeros32.map bv) 128 42 42
  have hld := hA.load Tryd.underlying128 rfl arr8_size
  have hix := run_index_words (P := Tryd.prog) Tryd.underlying128 Tryd.underlying93 u32_one v.list rfl
  have h4 := four_at v
  have hVb : ∀ x ∈ v.list, x < 4294967296 := by
    intro x hx
    simp only [V8.list, List.mem_cons, List.not_mem_nil, or_false] at hx
    obtain ⟨a1, a2, a3, a4, a5, a6, a7, a8⟩ := hv
    rcases hx with rfl | rfl | rfl | rfl | rfl | rfl | rfl | rfl <;> assumption
  have HIX := Lib.hid hix
  have H4 := Lib.hid h4
  have HVB := Lib.hid hVb
  clear hix h4 hVb
  go_enter Tryd.func93, Tryd.ntmps93
  go_wp2_with (with_reducible refine wpList_loads rfl 128 (.tmp 1) rfl _ rfl _ hld ?_)
  change Code.wp _ _ _ _ (((w.alloc (.cells (v.list.map uv).toArray 128)).alloc (.cells (zeros32.map bv).toArray 42)).alloc (.cells (zeros32.map bv).toArray 42))
  generalize ((w.alloc (.cells (v.list.map uv).toArray 128)).alloc (.cells (zeros32.map bv).toArray 42)).alloc (.cells (zeros32.map bv).toArray 42) = w3 at *
  have l01 : w.heap.size < w.heap.size + 1 + 1 := by omega
  have l12 : w.heap.size + 1 < w.heap.size + 1 + 1 := by omega
  generalize w.heap.size + 1 + 1 = b2 at *
  have l1 : w.heap.size ≤ w.heap.size + 1 := by omega
  generalize w.heap.size + 1 = b1 at *
  have hzl := zeros32_len
  have hdl := bytesOf_len v
  have HDG := Lib.hid (show bytesOf v = bytesOf v from rfl)
  generalize zeros32 = zs at *
  obtain ⟨dg, hdg⟩ : ∃ dg, dg = bytesOf v := ⟨_, rfl⟩
  rw [← hdg] at hdl H4
  have HZL := Lib.hid hzl
  have HDL := Lib.hid hdl
  have HDE := Lib.hid hdg
  clear hzl hdl hdg hA hld
  generalize v.list = vl at *
  go_loopw [7] (fun i wr => ∃ k : Nat, k ≤ 8 ∧ i = .int .i64 k ∧ Has wr b2 ((dg.take (4 * k) ++ zs.drop (4 * k)).map bv) ∧ Below b2 w3 wr) (fun i _ => 8 - (intOf i).toNat)
  case atStart => exact ⟨0, Nat.zero_le _, rfl, by simpa using hD, Below.refl _ _⟩
  case round =>
    clear hD
    obtain ⟨k, hk, rfl, hhas, hbel⟩ := hrel
    by_cases hlt : k < 8
    · have hix := HIX.out k hlt
      have hxb := getD_lt HVB.out (by omega) k
      obtain ⟨a0, a1, a2, a3⟩ := H4.out k hlt
      generalize vl.getD k 0 = x at *
      have s0 := hhas.set_ (k := 4 * k) (by simp [HDL.out, HZL.out]; omega) (bv (UInt8.ofNat (x / 16777216 % 256)))
      rw [← List.map_set, mid_set dg zs _ _ a0 (by rw [HZL.out]; omega)] at s0
      have s1 := s0.set_ (k := 4 * k + 1) (by simp [HDL.out, HZL.out]; omega) (bv (UInt8.ofNat (x / 65536 % 256)))
      rw [← List.map_set, mid_set dg zs _ _ a1 (by rw [HZL.out]; omega)] at s1
      have s2 := s1.set_ (k := 4 * k + 2) (by simp [HDL.out, HZL.out]; omega) (bv (UInt8.ofNat (x / 256 % 256)))
      rw [← List.map_set, mid_set dg zs _ _ a2 (by rw [HZL.out]; omega)] at s2
      have s3 := s2.set_ (k := 4 * k + 3) (by simp [HDL.out, HZL.out]; omega) (bv (UInt8.ofNat (x % 256)))
      rw [← List.map_set, mid_set dg zs _ _ a3 (by rw [HZL.out]; omega)] at s3
      have hbs := (((hbel.setCell (p := ⟨b2, 4 * k, none⟩) (Nat.le_refl _) (bv (UInt8.ofNat (x / 16777216 % 256)))).setCell (p := ⟨b2, 4 * k + 1, none⟩) (Nat.le_refl _) (bv (UInt8.ofNat (x / 65536 % 256)))).setCell (p := ⟨b2, 4 * k + 2, none⟩) (Nat.le_refl _) (bv (UInt8.ofNat (x / 256 % 256)))).setCell (p := ⟨b2, 4 * k + 3, none⟩) (Nat.le_refl _) (bv (UInt8.ofNat (x % 256)))
      have f0 := hhas.free (4 * k)
      have f1 := hhas.free (4 * k + 1)
      have f2 := hhas.free (4 * k + 2)
      have f3 := hhas.free (4 * k + 3)
      have hex : ∀ j, j < 32 → ∃ y, wr.cell? ⟨b2, j, none⟩ = some y := fun j hj => by
        obtain ⟨y, hy⟩ : ∃ y, ((dg.take (4 * k) ++ zs.drop (4 * k)).map bv)[j]? = some y := ⟨_, List.getElem?_eq_getElem (by simp [HDL.out, HZL.out]; omega)⟩
        exact ⟨y, hhas.cell hy⟩
      obtain ⟨y0, c0⟩ := hex (4 * k) (by omega)
      obtain ⟨y1, c1⟩ := hex (4 * k + 1) (by omega)
      obtain ⟨y2, c2⟩ := hex (4 * k + 2) (by omega)
      obtain ⟨y3, c3⟩ := hex (4 * k + 3) (by omega)
      have e0 : bv (UInt8.ofNat (x / 16777216 % 256)) = .int .u8 ((x : Int) / 16777216) := by rw [byte_of]; congr 1; omega
      have e1 : bv (UInt8.ofNat (x / 65536 % 256)) = .int .u8 ((x : Int) / 65536 % 256) := by rw [byte_of]; congr 1
      have e2 : bv (UInt8.ofNat (x / 256 % 256)) = .int .u8 ((x : Int) / 256 % 256) := by rw [byte_of]; congr 1
      have e3 := byte_of x
      rw [e0, e1, e2, e3] at s3 hbs
      have S3 := Lib.hid s3
      have HBS := Lib.hid hbs
      clear s0 s1 s2 s3 hbs hex e0 e1 e2 e3 hhas hbel a0 a1 a2 a3
      have k0 : (k : Int) < 8 := by omega
      go_wp2_with fail
      exact ⟨⟨k + 1, by omega, by go_num, S3.out, HBS.out⟩, by simp [intOf]; omega⟩
    · obtain rfl : k = 8 := by omega
      rw [List.take_of_length_le (by rw [HDL.out]; omega), List.drop_of_length_le (by rw [HZL.out]; omega), List.append_nil] at hhas
      have hld := hhas.load Tryd.underlying42 rfl (by rw [List.length_map, HDL.out]; exact dig_size2)
      have hRb := hR.below hbel l12
      go_wp2_with (first | (with_reducible refine wpList_loads rfl 42 (.tmp 3) rfl _ rfl _ hld ?_) | (refine wpList_storev rfl 42 (.tmp 2) (.tmp 38) rfl b1 (zs.map bv) (dg.map bv) 32 rfl rfl hRb (by rw [List.length_map, HZL.out]) (by rw [List.length_map, HDL.out]) dig_size2 (bv_one dg) ?_; intro w6 hbox6 hbel6))
      have hfin := hbel6 _ _ l1 (Below.trans hg (hbel.mono (Nat.le_of_lt l01)))
      rw [HDE.out] at hbox6
      refine bodyPost_ret (v := dv (bytesOf v)) (res_has Tryd.results93 _ rfl Tryd.underlying42 rfl (by rw [List.length_map, bytesOf_len]; exact dig_size2) hbox6) rfl ⟨rfl, hfin⟩
end Go.Proofs.YtnokloedbckijaaDoor

/-
  Contracts of (*State).Sum and of sha.Sum: the digest of the bytes; nothing that was there has turned. Conditions: the table keys holds the document's numbers; at most a million bytes.
-/
namespace Go.Proofs.YtnokloedbckijaaDoor
open Go.RowKit
set_option linter.unusedVariables false
set_option maxRecDepth 20000

theorem eight_next (N i : Nat) (hi : 0 < i) (h8 : i ≤ 8) : (eight N).take (8 - (i - 1)) = (eight N).take (8 - i) ++ [UInt8.ofNat (N / 256 ^ (i - 1) % 256)] := by
  match i, hi, h8 with
  | 1, _, _ => simp [eight]
  | 2, _, _ => simp [eight]
  | 3, _, _ => simp [eight]
  | 4, _, _ => simp [eight]
  | 5, _, _ => simp [eight]
  | 6, _, _ => simp [eight]
  | 7, _, _ => simp [eight]
  | 8, _, _ => simp [eight]

set_option maxRecDepth 100000 in
set_option maxHeartbeats 1000000 in
theorem ssum_any (b : Nat) (l : List UInt8) (w : World) (hk : Keys w) (hh : Hold w b l) (hn : l.length ≤ 1000000) :
    Calls Tryd.prog 76 #[.pointer (some ⟨b, 0, none⟩)] w fun e w' => e = .returned (dv (shaOf l)) ∧ Grows w w' := by
  have hbox := Has.new w 42 (zeros32.map bv)
  have hg0 := grows_alloc w (.cells (zeros32.map bv).toArray 42)
  have hh0 := hh.later hg0
  have hk0 := hk.later hg0
  clear hh hk
  go_enter Tryd.func76, Tryd.ntmps76
  go_wp2_with fail
  change Calls _ _ _ (w.alloc (.cells (zeros32.map bv).toArray 42)) _
  generalize w.alloc (.cells (zeros32.map bv).toArray 42) = w0 at *
  have hzl := zeros32_len
  generalize zeros32 = zs at *
  have HZL := Lib.hid hzl
  clear hzl
  refine (clone_any b l w0 hh0).mono ?_
  rintro e w1 ⟨rfl, hh1, hg1⟩
  have hs1 := hh0.later hg1
  have hk1 := hk0.later hg1
  have hbox1 := hbox.later hg1
  have hbw : w.heap.size < w0.heap.size := hbox.lt
  have hbb : b < w0.heap.size := by obtain ⟨_, h, _⟩ := hh0; exact h.has.lt
  have hg01 := Grows.trans hg0 hg1
  have hbe := hk0.pos
  generalize w0.heap.size = be at *
  clear hh0 hk0 hbox hg0 hg1
  go_wp2_with fail
  refine (put_any be l 128 w1 hk1 hbe hh1 (by omega)).mono ?_
  rintro e w2 ⟨rfl, hh2, hb2⟩
  have hgl := gap_lt l.length
  have HP := Lib.hid (show padded l = l ++ [128] ++ List.replicate (gap l.length) 0 ++ eight (8 * l.length) from rfl)
  clear hh1
  go_wp2_with fail
  go_loopg [] (gap l.length) (fun k wr => ∃ j : Nat, j + k = gap l.length ∧ Hold wr be (l ++ [128] ++ List.replicate j 0) ∧ But be w1 wr)
  case atStart => exact ⟨0, by omega, by simpa using hh2, hb2⟩
  case round =>
    clear hh2 hb2
    obtain ⟨j, hj, hhold, hbut⟩ := hrel
    have hlen : (l ++ [128] ++ List.replicate j 0).length = l.length + 1 + j := by simp; omega
    have hsz : wr.cell? ⟨be, 72, none⟩ = some (.int .i64 ((l.length + 1 + j : Nat) : Int)) := by
      obtain ⟨blk, hst, _⟩ := hhold
      have := hst.size
      rwa [hlen] at this
    have hkr := hk1.but hbut hbe
    by_cases hlt : j < gap l.length
    · have o1 : (((l.length + 1 + j : Nat) : Int) % 64 == 56) = false := by simp; unfold gap at hlt; omega
      have o2 : (((l.length + 1 + j : Nat) : Int) % 64 != 56) = true := by simp; unfold gap at hlt; omega
      have HLEN := Lib.hid hlen
      have HH := Lib.hid hhold
      have HB := Lib.hid hbut
      have HKR := Lib.hid hkr
      have HJ := Lib.hid hj
      have hm : l.length + 1 + j ≤ 2000000 := by omega
      have HLT := Lib.hid hlt
      clear hlen hhold hbut hkr hj hlt
      generalize l.length + 1 + j = m at *
      go_wp2_with fail
      refine (put_any be (l ++ [128] ++ List.replicate j 0) 0 wr HKR.out hbe HH.out (by rw [HLEN.out]; omega)).mono ?_
      rintro e w3 ⟨rfl, hh3, hb3⟩
      rw [List.append_assoc, ← List.replicate_succ'] at hh3
      have hb3' := HB.out.trans hb3
      clear hb3
      go_wp2_with fail
      go_roundg (gk - 1)
      case rel => exact ⟨j + 1, by have h1 := HJ.out; have h2 := HLT.out; omega, hh3, hb3'⟩
      case measure => have h1 := HJ.out; have h2 := HLT.out; omega
    · obtain rfl : j = gap l.length := by omega
      have o1 : (((l.length + 1 + gap l.length : Nat) : Int) % 64 == 56) = true := by simp; unfold gap; omega
      have o2 : (((l.length + 1 + gap l.length : Nat) : Int) % 64 != 56) = false := by simp; unfold gap; omega
      have HLEN := Lib.hid hlen
      have HH := Lib.hid hhold
      have HB := Lib.hid hbut
      have HKR := Lib.hid hkr
      have hm : l.length + 1 + gap l.length ≤ 2000000 := by omega
      clear hlen hhold hbut hkr hj hlt
      generalize l.length + 1 + gap l.length = m at *
      generalize l ++ [128] ++ List.replicate (gap l.length) 0 = pre at *
      go_wp2_with fail
      go_loopw [4] (fun t wr => ∃ i : Nat, i ≤ 8 ∧ t = .int .i64 (8 * (i : Int) - 8) ∧ Hold wr be (pre ++ (eight (8 * l.length)).take (8 - i)) ∧ But be w1 wr) (fun t _ => (intOf t + 8).toNat)
      case atStart => exact ⟨8, by omega, rfl, by simpa using HH.out, HB.out⟩
      case round =>
        clear HH HB HKR hsz o1 o2
        obtain ⟨i, hi, rfl, hhold, hbut⟩ := hrel
        by_cases hlt : 0 < i
        · have hE := eight_next (8 * l.length) i hlt hi
          have hsz : wr.cell? ⟨b, 72, none⟩ = some (.int .i64 (l.length : Int)) := by
            obtain ⟨blk, hst, _⟩ := hs1.but hbut (by omega)
            exact hst.size
          have hkr := hk1.but hbut hbe
          have hll : (pre ++ (eight (8 * l.length)).take (8 - i)).length ≤ 3000000 := by simp [HLEN.out, eight_len]; omega
          have hsh : (8 * (l.length : Int)) / 2 ^ (8 * (i : Int) - 8).toNat = ((8 * l.length / 256 ^ (i - 1) : Nat) : Int) := by
            rw [show (8 * (i : Int) - 8).toNat = 8 * (i - 1) by omega, show ((2 : Int) ^ (8 * (i - 1))) = ((2 ^ (8 * (i - 1)) : Nat) : Int) by simp, Nat.pow_mul]
            simp
          have HE := Lib.hid hE
          have HH := Lib.hid hhold
          have HB := Lib.hid hbut
          have HKR := Lib.hid hkr
          have HLL := Lib.hid hll
          clear hE hhold hbut hkr hll
          have i1 : (0 : Int) ≤ 8 * (i : Int) - 8 := by omega
          have i2 : 8 * (i : Int) - 8 ≤ 64 := by omega
          have i3 : (8 : Int) ≤ 8 * (i : Int) := by omega
          have hcv : Value.int .u8 (8 * (l.length : Int) / 256 ^ (i - 1) % 256) = .int .u8 ((UInt8.ofNat (8 * l.length / 256 ^ (i - 1) % 256)).toNat : Int) := by
            have := byte_of (8 * l.length / 256 ^ (i - 1))
            simp only [bv] at this
            rw [this]
            congr 1
          have HCV := Lib.hid hcv
          clear hcv
          go_wp2_with fail
          rw [HCV.out]
          refine (put_any be _ _ wr HKR.out hbe HH.out (Nat.le_trans HLL.out (by omega))).mono ?_
          rintro e w3 ⟨rfl, hh3, hb3⟩
          rw [List.append_assoc, ← HE.out] at hh3
          have hb3' := HB.out.trans hb3
          clear hb3 hsh
          go_wp2_with fail
          go_roundw
          case rel => exact ⟨i - 1, by omega, by congr 1; omega, hh3, hb3'⟩
          case measure => simp [intOf]; omega
        · obtain rfl : i = 0 := by omega
          have hfull : Hold wr be (padded l) := by
            rw [HP.out]
            have := hhold
            rwa [List.take_of_length_le (by rw [eight_len]; omega)] at this
          obtain ⟨blk, hst, _⟩ := hfull
          have hok := through_ok (padded l) ((padded l).length / 64)
          have HS := Lib.hid (show shaOf l = bytesOf (through (padded l) ((padded l).length / 64)) from rfl)
          generalize through (padded l) ((padded l).length / 64) = V at *
          have hld := range_load hst.words Tryd.underlying128 rfl arr8_size
          have hboxr := hbox1.but hbut (by omega)
          have hgr : Grows w wr := hg01.grown hbut hg01.size (fun k hk => by have := Option.some.inj hk; omega)
          clear hst hhold
          go_wp2_with (with_reducible refine wpList_loads rfl 128 (.tmp 34) rfl _ rfl _ hld ?_)
          refine (digest_of V wr hok).mono ?_
          rintro e w5 ⟨rfl, hg5⟩
          have hbox5 := hboxr.later hg5
          clear hld
          go_wp2_with (refine wpList_storev rfl 42 (.tmp 2) (.tmp 36) rfl w.heap.size (zs.map bv) ((bytesOf V).map bv) 32 rfl rfl hbox5 (by rw [List.length_map, HZL.out]) (by rw [List.length_map, bytesOf_len]) dig_size2 (bv_one _) ?_; intro w6 hbox6 hbel6)
          have hfin := hbel6 _ _ (Nat.le_refl _) (Grows.trans hgr hg5)
          rw [← HS.out] at hbox6
          refine bodyPost_ret (v := dv (shaOf l)) (res_has Tryd.results76 _ rfl Tryd.underlying42 rfl (by rw [List.length_map, shaOf_len]; exact dig_size2) hbox6) rfl ⟨rfl, hfin⟩

set_option maxRecDepth 100000 in
set_option maxHeartbeats 1000000 in
theorem sum_any (A : Option Addr) (n c : Nat) (bs : List UInt8) (w : World) (hk : Keys w) (hl : bs.length = n) (hr : Lies w w.heap.size A (bs.map bv)) (hn : n ≤ 1000000) :
    Calls Tryd.prog 49 #[.slice A n c] w fun e w' => e = .returned (dv (shaOf bs)) ∧ Grows w w' := by
  have hbox := Has.new w 42 (zeros32.map bv)
  have hg0 := grows_alloc w (.cells (zeros32.map bv).toArray 42)
  have hk0 := hk.later hg0
  have hr0 := hr.later hg0
  have HL := Lib.hid hl
  clear hk hr hl
  go_enter Tryd.func49, Tryd.ntmps49
  go_wp2_with fail
  change Calls _ _ _ (w.alloc (.cells (zeros32.map bv).toArray 42)) _
  generalize w.alloc (.cells (zeros32.map bv).toArray 42) = w0 at *
  have hzl := zeros32_len
  generalize zeros32 = zs at *
  have HZL := Lib.hid hzl
  clear hzl
  refine (new_any w0).mono ?_
  rintro e w1 ⟨rfl, hh1, hg1⟩
  have hk1 := hk0.later hg1
  have hbox1 := hbox.later hg1
  have hbw : w.heap.size < w0.heap.size := hbox.lt
  have hr1 : Off w1 w0.heap.size A (bs.map bv) := fun j u hu => by
    obtain ⟨ad, e, hlt, hc⟩ := hr0 j u hu
    exact ⟨ad, e, by omega, hcell_later hc hg1⟩
  have hg01 := Grows.trans hg0 hg1
  have hbe := hk0.pos
  generalize w0.heap.size = be at *
  clear hk0 hbox hg0 hg1 hr0
  go_wp2_with fail
  refine (write_any be [] A n c bs w1 hk1 hbe hh1 HL.out hr1 (by simpa using hn)).mono ?_
  rintro e w2 ⟨rfl, hh2, hb2⟩
  have hk2 := hk1.but hb2 hbe
  have hbox2 := hbox1.but hb2 (by omega)
  have hg2 : Grows w w2 := hg01.grown hb2 hg01.size (fun k hk => by have := Option.some.inj hk; omega)
  rw [List.nil_append] at hh2
  clear hh1 hk1 hbox1 hg01 hr1
  go_wp2_with fail
  refine (ssum_any be bs w2 hk2 hh2 (by rw [HL.out]; exact hn)).mono ?_
  rintro e w3 ⟨rfl, hg3⟩
  have hbox3 := hbox2.later hg3
  go_wp2_with (refine wpList_storev rfl 42 (.tmp 2) (.tmp 9) rfl w.heap.size (zs.map bv) ((shaOf bs).map bv) 32 rfl rfl hbox3 (by rw [List.length_map, HZL.out]) (by rw [List.length_map, shaOf_len]) dig_size2 (bv_one _) ?_; intro w6 hbox6 hbel6)
  have hfin := hbel6 _ _ (Nat.le_refl _) (Grows.trans hg2 hg3)
  refine bodyPost_ret (v := dv (shaOf bs)) (res_has Tryd.results49 _ rfl Tryd.underlying42 rfl (by rw [List.length_map, shaOf_len]; exact dig_size2) hbox6) rfl ⟨rfl, hfin⟩
end Go.Proofs.YtnokloedbckijaaDoor

/-
  Contracts of cut.Items, of the reference's Items and SameItems.
-/
namespace Go.Proofs.YtnokloedbckijaaDoor
open Go.RowKit Go.Shelf
set_option linter.unusedVariables false
set_option maxRecDepth 20000
attribute [local go_sem] Oper.semAt_some

/-- The items of bytes. -/
def itemOf (c : List UInt8) : Itm := (shaOf c, (c.length : Int))
def itemsOf (p : Prm) (b : List UInt8) : List Itm := (chunksOf p b).map itemOf
theorem itemOf_ok (c : List UInt8) : (itemOf c).1.length = 32 := shaOf_len c
/-- A row of items of its own. -/
def OwnIt (base : Nat) (w : World) (v : Value) (l : List Itm) : Prop := w.ownsRow base 61 33 v l.length (l.map icells).flatten
theorem OwnIt.nil (base : Nat) (w : World) : OwnIt base w (.slice none 0 0) [] := World.ownsRow_nil _ _ _ _
theorem OwnIt.later {base : Nat} {w w' : World} {v : Value} {l : List Itm} (h : OwnIt base w v l) (hg : Grows w w') : OwnIt base w' v l := own_later h hg
theorem flat_snoc (l : List Itm) (x : Itm) : ((l ++ [x]).map icells).flatten = (l.map icells).flatten ++ icells x := by simp

set_option maxRecDepth 20000 in
set_option maxHeartbeats 2000000 in
theorem items_any (p : Prm) (hp : p.Ok) (A : Option Addr) (n c : Nat) (bs : List UInt8) (w : World) (hl : bs.length = n) (hnc : n ≤ c) (hr : Lies w w.heap.size A (bs.map bv)) (hs : Starts w) (hk : Keys w) (hn : n ≤ 1000000) :
    Calls Tryd.prog 14 #[.slice A n c, pv p] w fun e w' => ∃ v, e = .returned (.tuple #[v, .int .i64 0]) ∧ OwnIt w.heap.size w' v (itemsOf p bs) ∧ Grows w w' := by
  have hpz : pv p = .agg #[.int .i64 p.mn, .int .i64 p.av, .int .i64 p.mx] := rfl
  have M0 : Hid (∀ u, Calls Tryd.prog 47 #[.agg #[.int .i64 p.mn, .int .i64 p.av, .int .i64 p.mx]] u fun e w' => e = .returned (.bool true) ∧ Grows u w') := fun u => by
    have := may_any p.mn p.av p.mx u
    rwa [may_ok hp] at this
  have hb0 := Has.new w 24 [.int .i64 (p.mn : Int), .int .i64 (p.av : Int), .int .i64 (p.mx : Int)]
  have hg0 := grows_alloc w (.cells [.int .i64 (p.mn : Int), .int .i64 (p.av : Int), .int .i64 (p.mx : Int)].toArray 24)
  refine calls_marks Tryd.func14 rfl ?_
  simp only [Tryd.ntmps14, List.size_toArray, List.length_cons, List.length_nil, Nat.reduceAdd, Nat.reduceSub, Array.replicate_succ, Array.replicate_zero, List.push_toArray, List.append_toArray, List.nil_append, List.cons_append]
  rw [hpz]
  gi_wp2_with fail
  refine call_wide (M0.out _) ?_
  rintro e w1 ⟨rfl, hg1⟩
  have hb1 := hb0.later hg1
  have P0 := hb1.cell (k := 0) rfl
  have P1 := hb1.cell (k := 1) rfl
  have P2 := hb1.cell (k := 2) rfl
  have hgw1 := Grows.trans hg0 hg1
  have hx1 := Has.new w1 29 [.slice none 0 0]
  have hgx := grows_alloc w1 (.cells [.slice none 0 0].toArray 29)
  have hlt1 := hb1.lt
  clear hb0 hg0 hg1
  gi_wp2_with fail
  refine call_wide (chunks_any p A n c _) ?_
  rintro e w3 ⟨bb, bp, rfl, hbb, hbp, hB, hP, hg3⟩
  have hx3 := hx1.later hg3
  have hgw3 := Grows.trans hgw1 (Grows.trans hgx hg3)
  have hb0s : w.heap.size ≤ w1.heap.size := hgw1.size
  have hxl := hx3.lt
  have hseq := chunks_seq p hp bb bp (fun k => k < w.heap.size) A n c bs w3 hB hP hl hnc ((LiesIn.of_lies hr (fun _ h => h)).later hgw3) (fun k h => Nat.lt_of_lt_of_le h hgw3.size) (hs.later hgw3) hn
  rw [World.size_alloc] at hbb hbp
  generalize hx : w1.heap.size = bx at *
  have hbs : Starts w := hs
  have hz := hs.pos
  have hkz := hk.pos
  have hBl := hB.lt
  have hPl := hP.lt
  clear hgx hg3 hx1 hx
  gi_wp2_with fail
  refine wp_range (gf := 71) (lb := #[.pointer (some ⟨bp, 0, none⟩), .pointer (some ⟨bb, 0, none⟩)]) rfl (enters_of Tryd.func71 (by kernel_rfl) rfl) rfl hseq ?gInp (fun k => k = bx) ?gO (fun k h => by rw [h]; exact hxl)
    (fun m pre W => ∃ v, Has W bx [v] ∧ OwnIt m W v (pre.map itemOf) ∧ Grows w W) (fun _ _ _ _ => False) ?gI (fun _ _ _ _ _ h _ => h) ?gh0
    (fun v => { tmps := #[.slice A n c, .agg #[.int .i64 p.mn, .int .i64 p.av, .int .i64 p.mx], undef, .pointer (some ⟨w.heap.size, 0, none⟩), .slice none 0 0, .int .i64 0, .pointer (some ⟨bx, 0, none⟩), v, .agg #[.int .i64 p.mn, .int .i64 p.av, .int .i64 p.mx], .bool true, .bool false, .slice A n c,
      .agg #[.int .i64 p.mn, .int .i64 p.av, .int .i64 p.mx], .func (.func 71) #[] #[.pointer (some ⟨bp, 0, none⟩), .pointer (some ⟨bb, 0, none⟩)], v, undef, undef, undef, undef, undef, undef, undef, undef, undef], defers := [] })
    ?gassign ?gA ?gbody ?gdone (fun _ _ _ _ _ _ _ _ _ h _ => h.elim)
  case gInp => rintro k (rfl | rfl | rfl | h) <;> omega
  case gO => rintro k (rfl | rfl | rfl | h) h' <;> omega
  case gI =>
    rintro m pre A' B' ⟨v, h1, h2, h3⟩ ht
    exact ⟨v, h1.turned ht (fun h => by have := h.1; omega), own_turned h2 ht (fun g hg h => by have := own_ge h2 g hg; have := h.2; omega), turns_then_grows h3 ht (fun k h => Nat.le_trans hgw3.size h.1)⟩
  case gh0 => exact fun m W1 _ _ hg => ⟨_, hx3.later hg, World.ownsRow_nil _ _ _ _, Grows.trans hgw3 hg⟩
  case gassign =>
    intro l v W K hK
    gi_wp2
    exact hK
  case gA =>
    rintro m W0 x v A' B' _ _ ⟨Ax, cx, rfl, h1, h2⟩ ht
    exact ⟨Ax, cx, rfl, h1, h2.turned ht (fun k hk h => by have := h.1; have := hgw3.size; omega)⟩
  case gbody =>
    rintro l m pre x v W0 W hm hmW0 _ ⟨v0, hx, hrow, hgw⟩ hT0 hpre ⟨Ax, cx, rfl, hxc, hLx⟩
    have hmW := Nat.le_trans hmW0 hT0.size
    clear hT0
    have hlen : pre.length + 1 ≤ 1000000 := by
      have h1 := hpre.length_le
      have h2 := chunks_len p bs
      rw [List.length_append, List.length_singleton] at h1
      omega
    have hxn : x.length ≤ 1000000 := by
      have h1 := chunks_flat p bs
      obtain ⟨t, ht⟩ := hpre
      have := congrArg List.length h1
      rw [← ht] at this
      simp at this
      omega
    have hgd := (Grows.refl W).drew
    have hO := Grows.refl W.drew
    have c0 : ∀ u, Grows W.drew u → u.cell? ⟨bx, 0, none⟩ = some v0 := fun u h => (hx.later (Grows.trans hgd h)).cell (k := 0) rfl
    have HS : Hid (∀ u, Grows W.drew u → Calls Tryd.prog 49 #[.slice Ax x.length cx] u fun e w' => e = .returned (dv (shaOf x)) ∧ Grows u w') := fun u h =>
      sum_any Ax x.length cx x u (hk.later (Grows.trans hgw (Grows.trans hgd h))) rfl ((hLx.lies (B := W.heap.size) (fun k hk => by have := hgw.size; omega)).later (Grows.trans hgd h)) hxn
    have hdl := shaOf_len x
    have hit : itemOf x = (shaOf x, (x.length : Int)) := rfl
    have HB := fun u => build_item (shaOf x) (x.length : Int) hdl u
    have HSL := fun u => slice_item (shaOf x) (x.length : Int) hdl u
    rw [← hit] at HB HSL
    have HLN : Hid ((pre ++ [x]).map itemOf = pre.map itemOf ++ [itemOf x]) := by show _ = _; simp
    have hic := icells_len (itemOf_ok x)
    have hio := icells_one (itemOf x)
    generalize itemOf x = it at *
    clear hit
    generalize shaOf x = sx at *
    generalize x.length = xl at *
    gi_wp2_with fail
    refine wpIn_region_ord 7 [(0, true), (1, true), (2, true), (3, true), (4, true), (5, true), (6, false)] (by kernel_rfl) (by kernel_rfl) (by intro _ _ h; exact h) ?_
    repeat (first | (refine ord_build hO _ _ (by simp only [List.getElem?_cons_succ, List.getElem?_cons_zero]; rfl) (by rfl) _ _ (by rfl) _ HB ?_ ?_; (· (go_simp)); try simp only [Act.put, List.setIfInBounds_toArray, List.set_cons_zero, List.set_cons_succ]) | (refine ord_load hO _ _ (by simp only [List.getElem?_cons_succ, List.getElem?_cons_zero]; rfl) (by rfl) 29 (.tmp 15) (by rfl) _ (by rfl) c0 ?_; try simp only [Act.put, List.setIfInBounds_toArray, List.set_cons_zero, List.set_cons_succ]) | (refine ord_take hO _ ?_ (by simp only [List.getElem?_cons_succ, List.getElem?_cons_zero]; rfl) (by rfl) ?_ ?_; rotate_left; (· (intro u hu0 hu; (try go_simp); (try with_reducible rfl))); try simp only [Act.put, List.setIfInBounds_toArray, List.set_cons_zero, List.set_cons_succ]) | (refine ord_skip _ (by simp only [List.getElem?_cons_succ, List.getElem?_cons_zero]; rfl) (by rfl) ?_; try simp only [Act.put, List.setIfInBounds_toArray, List.set_cons_zero, List.set_cons_succ]) | (refine ord_call hO _ ?_ (by simp only [List.getElem?_cons_succ, List.getElem?_cons_zero]; rfl) (by rfl) ?_ ?_; rotate_left; (· (intro u hu0 hu; go_simp; (try refine quiet_enter ?_); (exact HS.out u hu))); try simp only [Act.put, List.setIfInBounds_toArray, List.set_cons_zero, List.set_cons_succ]))
    refine ord_bslice _ (by simp only [List.getElem?_cons_succ, List.getElem?_cons_zero]; rfl) (by rfl) _ _ _ (by rfl) _ _ _ HSL ?_ (fun u hu => ?_)
    · go_simp
    simp only [Act.put, List.setIfInBounds_toArray, List.set_cons_zero, List.set_cons_succ]
    have hgu := Grows.trans hgd hu
    have hnu := Lies.new u 61 (icells it)
    have hna := grows_alloc u (.cells (icells it).toArray 61)
    refine ord_done (fun u2 hu2 => ?_)
    simp only [List.drop_succ_cons, List.drop_zero]
    have hg2 := Grows.trans hgu (Grows.trans hna hu2)
    have hl2 : Lies u2 u2.heap.size (some ⟨u.heap.size, 0, none⟩) (icells it) := (hnu.mono (by simp)).later hu2
    have hrow2 : u2.ownsRow m 61 33 v0 (pre.map itemOf).length ((pre.map itemOf).map icells).flatten := own_later hrow hg2
    have hm2 := hg2.size
    obtain ⟨i0, hi0, hz0, hz1, hz2⟩ := info_parts item_infoz
    have HC := fun (w4 : World) (h : u2.grownBy w4 v0.ownBlock) => coll_app (row := none) hx (by omega) hrow hg2 h
    have hpl : (pre.map itemOf).length = pre.length := by simp
    generalize pre.map itemOf = ps at *
    generalize hN : ps.length = N at *
    have HN := Lib.hid hN
    have hlen2 : N + 1 ≤ 1000000 := by omega
    clear hpl hlen hN hnu hna hgu hu hO c0 HS HB HSL
    go_wp2_with (at_builtin; refine wpList_append_recs rfl (.tmp 15) (.tmp 21) 29 rfl m 61 i0 zitem 33 40 (by decide) Tryd.underlying29 hi0 hz0 hz1 hz2 zitem_size v0 N _ rfl hrow2 _ (some ⟨u.heap.size, 0, none⟩) 1 1 (icells it) rfl (by rw [hic]) hl2 hio (by unfold maxLen; omega) (by omega) (by omega) ?_; intro v' w4 hown' hg' hat'; obtain ⟨hx4, ht4⟩ := HC w4 hg'; have hc4 := hx4.cell (k := 0) rfl; have hf4 := hx4.free 0; obtain ⟨hx5, ho5, ht5⟩ := coll_set hx4 (by omega) hown' ht4; obtain ⟨A5, c5, rfl, _⟩ := own_form hown')
    refine NoPanic.normal ?_
    gi_wp2_with fail
    exact ⟨ht5, _, hx5, by rw [HLN.out]; show World.ownsRow _ _ _ _ _ _ _; rw [flat_snoc, List.length_append, HN.out]; exact ho5, turns_then_grows hgw ht5 (fun k h => h.elim (fun h => by omega) (fun h => by have := hgw3.size; omega))⟩
  case gdone =>
    rintro D m W hm hmW rfl ⟨v, hx, hrow, hgw⟩ hD
    have hc := hx.cell (k := 0) rfl
    gi_wp2
    have ht := turns_putObj (S := fun k => k = w3.heap.size) W w3.heap.size (.deferred none) rfl
    refine marks_ret hD (fun u => results_tmp2 rfl _ _ _) ⟨v, rfl, ?_, turns_then_grows hgw ht (fun k h => by rw [h]; exact hgw3.size)⟩
    have := own_turned hrow ht (fun g hg h => by have := own_ge hrow g hg; omega)
    exact own_base this (Nat.le_trans hgw3.size (by omega))

set_option maxHeartbeats 2000000 in
theorem ritems_any (p : Prm) (hp : p.Ok) (A : Option Addr) (n c : Nat) (bs : List UInt8) (w : World) (hl : bs.length = n) (hnc : n ≤ c) (hr : Lies w w.heap.size A (bs.map bv)) (hn : n ≤ 1000000) :
    Calls Tryd.prog 17 #[.slice A n c, pv p] w fun e w' => ∃ v, e = .returned v ∧ OwnIt w.heap.size w' v (itemsOf p bs) ∧ Grows w w' := by
  unfold itemsOf
  have hN := Has.new w 24 [.int .i64 (p.mn : Int), .int .i64 (p.av : Int), .int .i64 (p.mx : Int)]
  have hg := grows_alloc w (.cells [.int .i64 (p.mn : Int), .int .i64 (p.av : Int), .int .i64 (p.mx : Int)].toArray 24)
  have P0 := hN.cell (k := 0) rfl
  have P1 := hN.cell (k := 1) rfl
  have P2 := hN.cell (k := 2) rfl
  have RC := Lib.hid (rchunks_any p hp A n c bs (w.alloc (.cells [.int .i64 (p.mn : Int), .int .i64 (p.av : Int), .int .i64 (p.mx : Int)].toArray 24)) hl hnc ((hr.later hg).mono (by simp)) hn)
  have hpv : pv p = .agg #[.int .i64 p.mn, .int .i64 p.av, .int .i64 p.mx] := rfl
  rw [hpv] at *
  have hsz : w.heap.size < (w.alloc (.cells [.int .i64 (p.mn : Int), .int .i64 (p.av : Int), .int .i64 (p.mx : Int)].toArray 24)).heap.size := by simp
  go_enter Tryd.func17, Tryd.ntmps17
  go_wp2_with fail
  refine RC.out.mono ?_
  rintro e w1 ⟨v, es, rfl, hown, heach, hg1⟩
  obtain ⟨A1, c1, rfl, hc1⟩ := own_form hown
  have hEL := Lies.of_own hown
  have hgw1 := Grows.trans hg hg1
  have hcl := chunks_len p bs
  have hcm : ∀ x ∈ chunksOf p bs, x.length ≤ 1000000 := fun x hx => by
    have h1 := chunks_flat p bs
    obtain ⟨i, hi⟩ := List.mem_iff_getElem?.1 hx
    have h2 := (List.sublist_flatten_of_mem hx).length_le
    rw [h1, hl] at h2
    omega
  generalize hcs : chunksOf p bs = cs at *
  have HCS := Lib.hid hcs
  have hsz1 := hg1.size
  clear hcs
  obtain ⟨N, hNN⟩ : ∃ N, N = cs.length := ⟨_, rfl⟩
  rw [← hNN] at hcl hc1 hown ⊢
  have HN := Lib.hid hNN
  have hN2 : N ≤ 1000000 := by omega
  clear hNN RC hN P0 P1 P2 hg1 hg hcl hown
  obtain ⟨i0, hi0, hz0, hz1, hz2⟩ := info_parts item_infoz
  go_wp2_with fail
  go_loopw [6, 7] (fun al i wr => ∃ k : Nat, k ≤ N ∧ i = .int .i64 (k : Int) ∧ OwnIt w1.heap.size wr al ((cs.take k).map itemOf) ∧ Grows w1 wr) (fun _ i _ => N - (intOf i).toNat)
  case atStart => exact ⟨0, Nat.zero_le _, rfl, by rw [List.take_zero]; exact OwnIt.nil _ _, Grows.refl _⟩
  case round =>
    obtain ⟨k, hk, rfl, hown, hg⟩ := hrel
    obtain ⟨A6, c6, rfl, _⟩ := own_form (show World.ownsRow _ _ _ _ _ _ _ from hown)
    have hlk : ((cs.take k).map itemOf).length = k := by rw [List.length_map, List.length_take, ← HN.out, Nat.min_eq_left hk]
    by_cases hlt : k < N
    · obtain ⟨x, hx⟩ : ∃ x, cs[k]? = some x := ⟨_, List.getElem?_eq_getElem (by rw [← HN.out]; exact hlt)⟩
      obtain ⟨Ax, cx, ex, hxc, hLx⟩ := heach.2 k x hx
      obtain ⟨ad, rfl, _, c1x⟩ := hEL.at_ ex
      have hxm := hcm x (List.mem_of_getElem? hx)
      have HSN : Hid ((cs.take (k + 1)).map itemOf = (cs.take k).map itemOf ++ [itemOf x]) := by show _ = _; rw [List.take_add_one, hx]; simp
      have hgd := Grows.trans hg (Grows.refl wr).drew
      have hO := Grows.refl wr.drew
      have f1 : ∀ u, Grows wr.drew u → u.cell? (ad.add k) = some (.slice Ax x.length cx) := fun u h => hcell_later c1x (Grows.trans hgd h)
      have HS : Hid (∀ u, Grows wr.drew u → Calls Tryd.prog 50 #[.slice Ax x.length cx] u fun e w' => e = .returned (dv (shaOf x)) ∧ Grows u w') := fun u h =>
        rsum_any Ax x.length cx x u rfl ((hLx.lies (B := w1.heap.size) (fun k hk => Nat.lt_of_lt_of_le hk hsz1)).later (Grows.trans hgd h)) hxm
      have hdl := shaOf_len x
      have hit : itemOf x = (shaOf x, (x.length : Int)) := rfl
      have HB := fun u => build_item (shaOf x) (x.length : Int) hdl u
      have HSL := fun u => slice_item (shaOf x) (x.length : Int) hdl u
      rw [← hit] at HB HSL
      have hic := icells_len (itemOf_ok x)
      have hione := icells_one (itemOf x)
      have hki : (k : Int) < (N : Int) := by omega
      generalize itemOf x = it at *
      clear hit hx ex hLx hdl hxc
      generalize shaOf x = sx at *
      generalize x.length = xl at *
      generalize (cs.take k).map itemOf = ps at *
      generalize hps : ps.length = P at *
      have HP := Lib.hid hps
      have hP2 : P + 1 ≤ 1000000 := by omega
      have HLK := Lib.hid hlk
      clear hps hlk
      go_wp2_with fail
      refine wp_region_ord 13 [(0, true), (1, true), (2, true), (3, true), (4, true), (5, true), (6, true), (7, true), (8, true), (9, true), (10, true), (11, true), (12, false)] (by kernel_rfl) (by kernel_rfl) ?_
      repeat (first | (refine ord_build hO _ _ (by simp only [List.getElem?_cons_succ, List.getElem?_cons_zero]; rfl) (by rfl) _ _ (by rfl) _ HB ?_ ?_; (· (go_simp)); try simp only [Act.put, List.setIfInBounds_toArray, List.set_cons_zero, List.set_cons_succ]) | (refine ord_take hO _ ?_ (by simp only [List.getElem?_cons_succ, List.getElem?_cons_zero]; rfl) (by rfl) ?_ ?_; rotate_left; (· (intro u hu0 hu; (try go_simp); (try with_reducible rfl))); try simp only [Act.put, List.setIfInBounds_toArray, List.set_cons_zero, List.set_cons_succ]) | (refine ord_skip _ (by simp only [List.getElem?_cons_succ, List.getElem?_cons_zero]; rfl) (by rfl) ?_; try simp only [Act.put, List.setIfInBounds_toArray, List.set_cons_zero, List.set_cons_succ]) | (refine ord_call hO _ ?_ (by simp only [List.getElem?_cons_succ, List.getElem?_cons_zero]; rfl) (by rfl) ?_ ?_; rotate_left; (· (intro u hu0 hu; go_simp; (try refine quiet_enter ?_); (exact HS.out u hu))); try simp only [Act.put, List.setIfInBounds_toArray, List.set_cons_zero, List.set_cons_succ]))
      refine ord_bslice _ (by simp only [List.getElem?_cons_succ, List.getElem?_cons_zero]; rfl) (by rfl) _ _ _ (by rfl) _ _ _ HSL ?_ (fun u hu => ?_)
      · go_simp
      simp only [Act.put, List.setIfInBounds_toArray, List.set_cons_zero, List.set_cons_succ]
      have hgu := Grows.trans hgd hu
      have hnu := Lies.new u 61 (icells it)
      have hna := grows_alloc u (.cells (icells it).toArray 61)
      refine ord_done (fun u2 hu2 => ?_)
      simp only [List.drop_succ_cons, List.drop_zero]
      have hg2 := Grows.trans hgu (Grows.trans hna hu2)
      have hl2 : Lies u2 u2.heap.size (some ⟨u.heap.size, 0, none⟩) (icells it) := (hnu.mono (by simp)).later hu2
      have hrow2 : u2.ownsRow w1.heap.size 61 33 (.slice A6 P c6) P (ps.map icells).flatten := by have := own_later hown (Grows.trans (Grows.refl wr).drew (Grows.trans hu (Grows.trans hna hu2))); rw [HP.out] at this; exact this
      have hm2 := hg2.size
      clear hnu hna hgu hu hO f1 HS HB HSL hown hu2
      go_wp2_with (at_builtin; refine wpList_append_recs rfl (.tmp 17) (.tmp 29) 29 rfl w1.heap.size 61 i0 zitem 33 40 (by decide) Tryd.underlying29 hi0 hz0 hz1 hz2 zitem_size (.slice A6 P c6) P _ rfl hrow2 _ (some ⟨u.heap.size, 0, none⟩) 1 1 (icells it) rfl (by rw [hic]) hl2 hione (by unfold maxLen; omega) (by omega) (by omega) ?_; intro v' w4 hown' hg' hat')
      have hg5 : Grows w1 w4 := Below.grown hg2 hg' (by omega) (own_ge hrow2)
      refine NoPanic.normal ?_
      go_wp2_with fail
      go_roundw
      case rel => exact ⟨k + 1, by omega, by go_num, by rw [HSN.out]; show World.ownsRow _ _ _ _ _ _ _; rw [flat_snoc, List.length_append, HP.out]; exact hown', hg5⟩
      case measure => simp [intOf]; omega
    · obtain rfl : k = N := by omega
      have hq : (cs.take k).map itemOf = cs.map itemOf := by rw [List.take_of_length_le (by rw [← HN.out]; exact Nat.le_refl _)]
      have d1 : decide ((k : Int) < (k : Int)) = false := by simp
      have HQ := Lib.hid hq
      have HLK := Lib.hid hlk
      clear hq hlk
      generalize (cs.take k).map itemOf = qs at *
      go_wp2_with fail
      go_ret
      exact ⟨_, rfl, by rw [HCS.out, ← HQ.out]; exact own_base hown hgw1.size, Grows.trans hgw1 hg⟩
end Go.Proofs.YtnokloedbckijaaDoor

/-
  Indexes built; contracts of index.Of and index.appendNumber.
-/
namespace Go.Proofs.YtnokloedbckijaaDoor
open Go.RowKit
set_option linter.unusedVariables false
set_option maxRecDepth 20000

/-- The zero index's cells. -/
def zcells : List Value := xcells zeroI none 0
theorem zcells_len : zcells.length = 36 := by decide +kernel
theorem zcells_one : ∀ u ∈ zcells, u.oneCell' = true := xcells_one zeroI none 0
theorem build_ix (x : Ixd) (A : Option Addr) (c : Nat) (hx : x.im.length = 32) (u : World) : (Instr.build 44 #[(0, .agg #[.int .i64 x.a, .int .i64 x.b, .int .i64 x.c]), (1, dv x.im), (2, .slice A x.its.length c)]).run Tryd.prog u = .ok (xval x A c) u := by
  obtain ⟨a, b, d, im, l⟩ := x
  have hl : im.length = 32 := hx
  show (Instr.build 44 #[(0, .agg #[.int .i64 a, .int .i64 b, .int .i64 d]), (1, dv im), (2, .slice A l.length c)]).run Tryd.prog u = .ok (.agg ((([.int .i64 a, .int .i64 b, .int .i64 d] : List Value) ++ (im.map bv ++ [Value.slice A l.length c]))).toArray) u
  generalize l.length = n
  clear hx
  revert u
  refine by32 (C := fun im => ∀ (u : World), (Instr.build 44 #[(0, .agg #[.int .i64 a, .int .i64 b, .int .i64 d]), (1, dv im), (2, .slice A n c)]).run Tryd.prog u = .ok (.agg ((([.int .i64 a, .int .i64 b, .int .i64 d] : List Value) ++ (im.map bv ++ [Value.slice A n c]))).toArray) u) ?_ im hl
  intro a0 a1 a2 a3 a4 a5 a6 a7 a8 a9 a10 a11 a12 a13 a14 a15 a16 a17 a18 a19 a20 a21 a22 a23 a24 a25 a26 a27 a28 a29 a30 a31 u
  exact run_build u 44 _ _ (by kernel_rfl)
theorem build_ix0 (u : World) : (Instr.build 44 #[]).run Tryd.prog u = .ok (.agg zcells.toArray) u := run_build u 44 _ _ (by kernel_rfl)
theorem build_rx (x : Ixd) (A : Option Addr) (c : Nat) (hx : x.im.length = 32) (u : World) : (Instr.build 49 #[(0, .agg #[.int .i64 x.a, .int .i64 x.b, .int .i64 x.c]), (1, dv x.im), (2, .slice A x.its.length c)]).run Tryd.prog u = .ok (xval x A c) u := by
  obtain ⟨a, b, d, im, l⟩ := x
  have hl : im.length = 32 := hx
  show (Instr.build 49 #[(0, .agg #[.int .i64 a, .int .i64 b, .int .i64 d]), (1, dv im), (2, .slice A l.length c)]).run Tryd.prog u = .ok (.agg ((([.int .i64 a, .int .i64 b, .int .i64 d] : List Value) ++ (im.map bv ++ [Value.slice A l.length c]))).toArray) u
  generalize l.length = n
  clear hx
  revert u
  refine by32 (C := fun im => ∀ (u : World), (Instr.build 49 #[(0, .agg #[.int .i64 a, .int .i64 b, .int .i64 d]), (1, dv im), (2, .slice A n c)]).run Tryd.prog u = .ok (.agg ((([.int .i64 a, .int .i64 b, .int .i64 d] : List Value) ++ (im.map bv ++ [Value.slice A n c]))).toArray) u) ?_ im hl
  intro a0 a1 a2 a3 a4 a5 a6 a7 a8 a9 a10 a11 a12 a13 a14 a15 a16 a17 a18 a19 a20 a21 a22 a23 a24 a25 a26 a27 a28 a29 a30 a31 u
  exact run_build u 49 _ _ (by kernel_rfl)
theorem build_rx0 (u : World) : (Instr.build 49 #[]).run Tryd.prog u = .ok (.agg zcells.toArray) u := run_build u 49 _ _ (by kernel_rfl)
theorem rx_size : (Tryd.prog.info? 49).map (·.size) = some 36 := by kernel_rfl
theorem res_has_tmp {P : Program} {fn : Func} {p q b : Nat} {t : TypeId} {d : TypeDesc} {vs : List Value} {w : World} (h : fn.results = #[.cell p t, .tmp q]) (tmps : Array Value) (hp : tmps.getD p undef = .pointer (some ⟨b, 0, none⟩))
    (ht : P.underlying t = some d) (hd : d.isRow = true) (hi : (P.info? t).map (·.size) = some vs.length) (hb : Has w b vs) : (results fn tmps).run P w = .ok (.tuple #[.agg vs.toArray, tmps.getD q undef]) w := by
  rw [results_cell_tmp h, hp]
  simp only [asAddr, Sem.run_pure, Result.andThen_ok, run_loadVar_mid w b 0 t vs d hb.cells ht hd hi]
/-- The index of an image. -/
def ofI (p : Prm) (b : List UInt8) : Ixd := ⟨p.mn, p.av, p.mx, shaOf b, itemsOf p b⟩

set_option maxHeartbeats 2000000 in
theorem appnum_any (base : Nat) (v : Value) (n z : Nat) (l : List UInt8) (w : World) (hl : l.length = n) (hown : w.ownsRow base 5 1 v n (l.map bv)) (hb : base ≤ w.heap.size) (hz : z < 4294967296) (hn : n ≤ 1000000) :
    Calls Tryd.prog 53 #[v, .int .i64 (z : Int)] w fun e w' => ∃ v', e = .returned v' ∧ w'.ownsRow base 5 1 v' (n + 4) ((l ++ fourC z).map bv) ∧ Turns (fun k => base ≤ k) w w' := by
  obtain ⟨i0, hi0, hz0, hz1, hz2⟩ := info_parts byte_info
  have HL := Lib.hid hl
  clear hl
  obtain ⟨A, c, rfl, hc⟩ := own_form hown
  go_enter Tryd.func53, Tryd.ntmps53
  go_wp2_with fail
  go_loopw [0, 6] (fun v i wr => ∃ k : Nat, k ≤ 4 ∧ i = .int .i64 k ∧ wr.ownsRow base 5 1 v (n + k) ((l ++ (fourC z).take k).map bv) ∧ Turns (fun k => base ≤ k) w wr) (fun _ i _ => 4 - (intOf i).toNat)
  case atStart => exact ⟨0, by omega, rfl, by simpa using hown, Turns.refl _ _⟩
  case round =>
    clear hown
    obtain ⟨k, hk, rfl, hown, hgr⟩ := hrel
    have hszr := hgr.size
    by_cases hlt : k < 4
    · have HF := Lib.hid (four_take z k hlt)
      have hb2 : (UInt8.ofNat (z / 2 ^ (8 * k))).toNat = z / 2 ^ (8 * k) % 256 := by simp
      have hnew := Lies.new wr 5 [bv (UInt8.ofNat (z / 2 ^ (8 * k)))]
      have hga := grows_alloc wr (.cells ([bv (UInt8.ofNat (z / 2 ^ (8 * k)))] : List Value).toArray 5)
      have hw8 : IntKind.i64.wrap (8 * (k : Int)) = 8 * (k : Int) := IntWalk.i64_in _ (by omega)
      go_wp2_with (at_builtin; refine wpList_append_src _ rfl (.tmp 9) (.tmp 15) _ rfl base 5 i0 _ 1 Tryd.underlying22 hi0 hz0 hz1 hz2 rfl _ (n + k) _ rfl (hown.alloc _) _ _ 1 1 [bv (UInt8.ofNat (z / 2 ^ (8 * k)))] rfl rfl hnew (by simp [Value.oneCell']) (by unfold maxLen; omega) (by omega) (by rw [World.size_alloc]; omega) ?_; intro v' w' hown' hg' hat')
      have hb3 : Turns (fun k => base ≤ k) wr w' := (Turns.of_grows hga).trans (Turns.of_by hg' fun g e _ => own_ge hown g e)
      rw [show [bv (UInt8.ofNat (z / 2 ^ (8 * k)))] = [UInt8.ofNat (z / 2 ^ (8 * k))].map bv from rfl, ← List.map_append, List.append_assoc, ← HF.out] at hown'
      go_roundw
      case rel => exact ⟨k + 1, by omega, by go_num, hown', hgr.trans hb3⟩
      case measure => simp [intOf]; omega
    · obtain rfl : k = 4 := by omega
      go_wp2
      go_ret
      rw [List.take_of_length_le (by rw [four_len]; exact Nat.le_refl _)] at hown
      exact ⟨_, rfl, hown, hgr⟩
end Go.Proofs.YtnokloedbckijaaDoor

/-
  Contract of index.Of.
-/
namespace Go.Proofs.YtnokloedbckijaaDoor
open Go.RowKit
set_option linter.unusedVariables false
set_option maxRecDepth 20000

set_option maxHeartbeats 4000000 in
theorem of_ok (p : Prm) (hp : p.Ok) (A : Option Addr) (n c : Nat) (bs : List UInt8) (w : World) (hl : bs.length = n) (hnc : n ≤ c) (hr : Lies w w.heap.size A (bs.map bv)) (hs : Starts w) (hk : Keys w) (hn : n ≤ 65536) (hm : (itemsOf p bs).length ≤ 4096) :
    Calls Tryd.prog 21 #[.slice A n c, pv p] w fun e w' => ∃ A' c', e = .returned (.tuple #[xval (ofI p bs) A' c', .int .i64 0]) ∧ (itemsOf p bs).length ≤ c' ∧ OwnIt w.heap.size w' (.slice A' (itemsOf p bs).length c') (itemsOf p bs) ∧ Grows w w' := by
  have hN := Has.new w 24 [.int .i64 (p.mn : Int), .int .i64 (p.av : Int), .int .i64 (p.mx : Int)]
  have g1 := grows_alloc w (.cells [.int .i64 (p.mn : Int), .int .i64 (p.av : Int), .int .i64 (p.mx : Int)].toArray 24)
  have hX := Has.new (w.alloc (.cells [.int .i64 (p.mn : Int), .int .i64 (p.av : Int), .int .i64 (p.mx : Int)].toArray 24)) 44 zcells
  have g2 := grows_alloc (w.alloc (.cells [.int .i64 (p.mn : Int), .int .i64 (p.av : Int), .int .i64 (p.mx : Int)].toArray 24)) (.cells zcells.toArray 44)
  have hN2 := hN.later g2
  have hg := Grows.trans g1 g2
  rw [World.size_alloc] at hX
  have P0 := hN2.cell (k := 0) rfl
  have P1 := hN2.cell (k := 1) rfl
  have P2 := hN2.cell (k := 2) rfl
  have M0 := Lib.hid (fun u => by have := may_any p.mn p.av p.mx u; rw [may_ok hp] at this; exact this : ∀ u, Calls Tryd.prog 47 #[pz p.mn p.av p.mx] u fun e w' => e = .returned (.bool true) ∧ Grows u w')
  have IT := Lib.hid (fun u (hg : Grows w u) => items_any p hp A n c bs u hl hnc (hr.later hg) (hs.later hg) (hk.later hg) (by omega))
  have SU := Lib.hid (fun u (hg : Grows w u) => sum_any A n c bs u (hk.later hg) hl (hr.later hg) (by omega))
  have hpv : pv p = .agg #[.int .i64 p.mn, .int .i64 p.av, .int .i64 p.mx] := rfl
  unfold pz at M0
  rw [hpv] at *
  have BX := fun (A' : Option Addr) (c' : Nat) => build_ix (ofI p bs) A' c' (shaOf_len bs)
  have hxl := fun (A' : Option Addr) (c' : Nat) => xcells_len (x := ofI p bs) (shaOf_len bs) A' c'
  have hx1 := fun (A' : Option Addr) (c' : Nat) => xcells_one (ofI p bs) A' c'
  have hof : (ofI p bs).a = p.mn ∧ (ofI p bs).b = p.av ∧ (ofI p bs).c = p.mx ∧ (ofI p bs).im = shaOf bs ∧ (ofI p bs).its = itemsOf p bs := ⟨rfl, rfl, rfl, rfl, rfl⟩
  obtain ⟨o1, o2, o3, o4, o5⟩ := hof
  rw [o1, o2, o3, o4, o5] at BX
  unfold xval at *
  generalize hxi : (fun A' c' => xcells (ofI p bs) A' c') = X at *
  have hxi' : ∀ A' c', xcells (ofI p bs) A' c' = X A' c' := fun A' c' => congrFun (congrFun hxi A') c'
  simp only [hxi'] at *
  clear hxi hxi' o1 o2 o3 o4 o5
  generalize itemsOf p bs = l at *
  obtain ⟨N, hN0⟩ : ∃ N, N = l.length := ⟨_, rfl⟩
  rw [← hN0] at hm BX
  have HN := Lib.hid hN0
  clear hN0
  generalize shaOf bs = sx at *
  have HL := Lib.hid hl
  have BX := Lib.hid BX
  clear hl hN
  go_enter Tryd.func21, Tryd.ntmps21
  go_wp2_with fail
  change Calls _ _ _ ((w.alloc (.cells [.int .i64 (p.mn : Int), .int .i64 (p.av : Int), .int .i64 (p.mx : Int)].toArray 24)).alloc (.cells zcells.toArray 44)) _
  generalize (w.alloc (.cells [.int .i64 (p.mn : Int), .int .i64 (p.av : Int), .int .i64 (p.mx : Int)].toArray 24)).alloc (.cells zcells.toArray 44) = w2 at *
  refine (M0.out w2).mono ?_
  rintro e w3 ⟨rfl, hg3⟩
  have hgw3 := Grows.trans hg hg3
  have hN3 := hN2.later hg3
  have hX3 := hX.later hg3
  have Q0 := hN3.cell (k := 0) rfl
  have Q1 := hN3.cell (k := 1) rfl
  have Q2 := hN3.cell (k := 2) rfl
  have e1 : decide ((n : Int) > 65536) = false := by simp; omega
  clear P0 P1 P2 hN2 hX M0 g1 g2 hg hg3
  go_wp2_with fail
  refine (IT.out w3 hgw3).mono ?_
  rintro e w4 ⟨v, rfl, hown, hg4⟩
  obtain ⟨A4, c4, rfl, hc4⟩ := own_form (show World.ownsRow _ _ _ _ _ _ _ from hown)
  have hgw4 := Grows.trans hgw3 hg4
  have hN4 := hN3.later hg4
  have hX4 := hX3.later hg4
  rw [← HN.out] at hc4
  have hos : OwnIt w3.heap.size w4 (.slice A4 N c4) l := by rw [HN.out]; exact hown
  rw [← HN.out]
  have e2 : decide ((N : Int) > 4096) = false := by simp; omega
  have hgd := (Grows.refl w4).drew
  have hO := Grows.refl w4.drew
  have hlp : ∀ u, Grows w4.drew u → (Instr.loadAt 24 (.pointer (some ⟨w.heap.size, 0, none⟩))).run Tryd.prog u = .ok (.agg #[.int .i64 (p.mn : Int), .int .i64 (p.av : Int), .int .i64 (p.mx : Int)]) u := fun u h =>
    (hN4.later (Grows.trans hgd h)).load Tryd.underlying24 rfl prm_size
  have HS : Hid (∀ u, Grows w4.drew u → Calls Tryd.prog 49 #[.slice A n c] u fun e w' => e = .returned (dv sx) ∧ Grows u w') := fun u h => SU.out u (Grows.trans hgw4 (Grows.trans hgd h))
  have HB := BX.out A4 c4
  have hxl4 := hxl A4 c4
  have hx14 := hx1 A4 c4
  clear Q0 Q1 Q2 IT SU hown
  go_wp2_with fail
  refine wp_region_ord 5 [(0, true), (1, true), (2, true), (3, true), (4, true)] (by kernel_rfl) (by kernel_rfl) ?_
  repeat (first | (refine ord_load hO _ _ (by simp only [List.getElem?_cons_succ, List.getElem?_cons_zero]; rfl) (by rfl) 24 (.tmp 3) (by rfl) _ (by rfl) hlp ?_; try simp only [Act.put, List.setIfInBounds_toArray, List.set_cons_zero, List.set_cons_succ]) | (refine ord_build hO _ _ (by simp only [List.getElem?_cons_succ, List.getElem?_cons_zero]; rfl) (by rfl) _ _ (by rfl) _ HB ?_ ?_; (· (go_simp)); try simp only [Act.put, List.setIfInBounds_toArray, List.set_cons_zero, List.set_cons_succ]) | (refine ord_take hO _ ?_ (by simp only [List.getElem?_cons_succ, List.getElem?_cons_zero]; rfl) (by rfl) ?_ ?_; rotate_left; (· (intro u hu0 hu; (try go_simp); (try with_reducible rfl))); try simp only [Act.put, List.setIfInBounds_toArray, List.set_cons_zero, List.set_cons_succ]) | (refine ord_skip _ (by simp only [List.getElem?_cons_succ, List.getElem?_cons_zero]; rfl) (by rfl) ?_; try simp only [Act.put, List.setIfInBounds_toArray, List.set_cons_zero, List.set_cons_succ]) | (refine ord_call hO _ ?_ (by simp only [List.getElem?_cons_succ, List.getElem?_cons_zero]; rfl) (by rfl) ?_ ?_; rotate_left; (· (intro u hu0 hu; go_simp; (try refine quiet_enter ?_); (exact HS.out u hu))); try simp only [Act.put, List.setIfInBounds_toArray, List.set_cons_zero, List.set_cons_succ]))
  refine ord_done (fun w5 hu => ?_)
  simp only [List.drop_succ_cons, List.drop_zero]
  have hg5 := Grows.trans hgw4 (Grows.trans hgd hu)
  have hX5 := hX4.later (Grows.trans hgd hu)
  have hos5 := OwnIt.later hos (Grows.trans hgd hu)
  clear hlp HS HB hO
  have hsx := hX3.lt
  go_wp2_with (refine wpList_storeT rfl 44 (.tmp 4) (.tmp 30) rfl (w.heap.size + 1) zcells (X A4 c4) 36 rfl rfl hX5 zcells_len hxl4 ix_size hx14 ?_; intro w6 hbox6 ht6)
  refine NoPanic.normal ?_
  go_wp2_with fail
  have hfin := turns_grow hg5 ht6 (by omega)
  have hos6 : OwnIt w.heap.size w6 (.slice A4 N c4) l := own_base (own_turned hos5 ht6 (fun g hg h => by have := own_ge hos5 g hg; omega)) hgw3.size
  refine bodyPost_ret (res_has_tmp (vs := X A4 c4) Tryd.results21 _ rfl Tryd.underlying44 rfl (by rw [hxl4]; exact ix_size) hbox6) rfl ⟨A4, c4, rfl, by rw [← HN.out]; exact hc4, by rw [← HN.out]; exact hos6, hfin⟩

set_option maxHeartbeats 4000000 in
theorem of_no (p : Prm) (hp : p.Ok) (A : Option Addr) (n c : Nat) (bs : List UInt8) (w : World) (hl : bs.length = n) (hnc : n ≤ c) (hr : Lies w w.heap.size A (bs.map bv)) (hs : Starts w) (hk : Keys w) (hn : n ≤ 1000000) (hm : 65536 < n ∨ 4096 < (itemsOf p bs).length) :
    Calls Tryd.prog 21 #[.slice A n c, pv p] w fun e w' => e = .returned (.tuple #[.agg zcells.toArray, .int .i64 3]) ∧ Grows w w' := by
  have hN := Has.new w 24 [.int .i64 (p.mn : Int), .int .i64 (p.av : Int), .int .i64 (p.mx : Int)]
  have g1 := grows_alloc w (.cells [.int .i64 (p.mn : Int), .int .i64 (p.av : Int), .int .i64 (p.mx : Int)].toArray 24)
  have hX := Has.new (w.alloc (.cells [.int .i64 (p.mn : Int), .int .i64 (p.av : Int), .int .i64 (p.mx : Int)].toArray 24)) 44 zcells
  have g2 := grows_alloc (w.alloc (.cells [.int .i64 (p.mn : Int), .int .i64 (p.av : Int), .int .i64 (p.mx : Int)].toArray 24)) (.cells zcells.toArray 44)
  have hN2 := hN.later g2
  have hg := Grows.trans g1 g2
  rw [World.size_alloc] at hX
  have P0 := hN2.cell (k := 0) rfl
  have P1 := hN2.cell (k := 1) rfl
  have P2 := hN2.cell (k := 2) rfl
  have M0 := Lib.hid (fun u => by have := may_any p.mn p.av p.mx u; rw [may_ok hp] at this; exact this : ∀ u, Calls Tryd.prog 47 #[pz p.mn p.av p.mx] u fun e w' => e = .returned (.bool true) ∧ Grows u w')
  have IT := Lib.hid (fun u (hg : Grows w u) => items_any p hp A n c bs u hl hnc (hr.later hg) (hs.later hg) (hk.later hg) (by omega))
  have hpv : pv p = .agg #[.int .i64 p.mn, .int .i64 p.av, .int .i64 p.mx] := rfl
  unfold pz at M0
  rw [hpv] at *
  generalize itemsOf p bs = l at *
  have BZ := build_ix0
  have hzl := zcells_len
  have hz1 := zcells_one
  clear hl hN
  by_cases hbig : 65536 < n
  · have e1 : decide ((n : Int) > 65536) = true := by simp; omega
    go_enter Tryd.func21, Tryd.ntmps21
    go_wp2_with fail
    change Calls _ _ _ ((w.alloc (.cells [.int .i64 (p.mn : Int), .int .i64 (p.av : Int), .int .i64 (p.mx : Int)].toArray 24)).alloc (.cells zcells.toArray 44)) _
    generalize (w.alloc (.cells [.int .i64 (p.mn : Int), .int .i64 (p.av : Int), .int .i64 (p.mx : Int)].toArray 24)).alloc (.cells zcells.toArray 44) = w2 at *
    refine (M0.out w2).mono ?_
    rintro e w3 ⟨rfl, hg3⟩
    have hgw3 := Grows.trans hg hg3
    have hX3 := hX.later hg3
    clear P0 P1 P2 hN2 hX M0 g1 g2 hg hg3
    go_wp2_with (first | (with_reducible refine wpList_build_as rfl 44 #[] rfl #[] _ BZ rfl ?_) | (refine wpList_storeT rfl 44 (.tmp 4) (.tmp 15) rfl (w.heap.size + 1) zcells zcells 36 rfl rfl hX3 hzl hzl ix_size hz1 ?_; intro w6 hbox6 ht6))
    refine bodyPost_ret (res_has_tmp (vs := zcells) Tryd.results21 _ rfl Tryd.underlying44 rfl (by rw [hzl]; exact ix_size) hbox6) rfl ⟨rfl, turns_grow hgw3 ht6 (by omega)⟩
  · have e1 : decide ((n : Int) > 65536) = false := by simp; omega
    go_enter Tryd.func21, Tryd.ntmps21
    go_wp2_with fail
    change Calls _ _ _ ((w.alloc (.cells [.int .i64 (p.mn : Int), .int .i64 (p.av : Int), .int .i64 (p.mx : Int)].toArray 24)).alloc (.cells zcells.toArray 44)) _
    generalize (w.alloc (.cells [.int .i64 (p.mn : Int), .int .i64 (p.av : Int), .int .i64 (p.mx : Int)].toArray 24)).alloc (.cells zcells.toArray 44) = w2 at *
    refine (M0.out w2).mono ?_
    rintro e w3 ⟨rfl, hg3⟩
    have hgw3 := Grows.trans hg hg3
    have hN3 := hN2.later hg3
    have hX3 := hX.later hg3
    have Q0 := hN3.cell (k := 0) rfl
    have Q1 := hN3.cell (k := 1) rfl
    have Q2 := hN3.cell (k := 2) rfl
    clear P0 P1 P2 hN2 hX M0 g1 g2 hg hg3
    go_wp2_with fail
    refine (IT.out w3 hgw3).mono ?_
    rintro e w4 ⟨v, rfl, hown, hg4⟩
    obtain ⟨A4, c4, rfl, hc4⟩ := own_form (show World.ownsRow _ _ _ _ _ _ _ from hown)
    have hgw4 := Grows.trans hgw3 hg4
    have hX4 := hX3.later hg4
    generalize l.length = N at *
    have e2 : decide ((N : Int) > 4096) = true := by simp; omega
    go_wp2_with (first | (with_reducible refine wpList_build_as rfl 44 #[] rfl #[] _ BZ rfl ?_) | (refine wpList_storeT rfl 44 (.tmp 4) (.tmp 25) rfl (w.heap.size + 1) zcells zcells 36 rfl rfl hX4 hzl hzl ix_size hz1 ?_; intro w6 hbox6 ht6))
    refine bodyPost_ret (res_has_tmp (vs := zcells) Tryd.results21 _ rfl Tryd.underlying44 rfl (by rw [hzl]; exact ix_size) hbox6) rfl ⟨rfl, turns_grow hgw4 ht6 (by omega)⟩
end Go.Proofs.YtnokloedbckijaaDoor

/-
  Contract of index.appendNumber behind a slice that is full.
-/
namespace Go.Proofs.YtnokloedbckijaaDoor
open Go.RowKit
set_option linter.unusedVariables false
set_option maxRecDepth 20000

set_option maxHeartbeats 2000000 in
theorem appnum_full (ad : Addr) (n z : Nat) (l : List UInt8) (w : World) (hl : l.length = n) (hr : Lies w w.heap.size (some ad) (l.map bv)) (hz : z < 4294967296) (hn : n ≤ 1000000) :
    Calls Tryd.prog 53 #[.slice (some ad) n n, .int .i64 (z : Int)] w fun e w' => ∃ v', e = .returned v' ∧ w'.ownsRow w.heap.size 5 1 v' (n + 4) ((l ++ fourC z).map bv) ∧ Grows w w' := by
  obtain ⟨i0, hi0, hz0, hz1, hz2⟩ := info_parts byte_info
  have HL := Lib.hid hl
  clear hl
  go_enter Tryd.func53, Tryd.ntmps53
  go_wp2_with fail
  go_loopw [0, 6] (fun v i wr => ∃ k : Nat, k ≤ 4 ∧ i = .int .i64 k ∧ Grows w wr ∧ ((k = 0 ∧ v = .slice (some ad) n n) ∨ (0 < k ∧ wr.ownsRow w.heap.size 5 1 v (n + k) ((l ++ (fourC z).take k).map bv)))) (fun _ i _ => 4 - (intOf i).toNat)
  case atStart => exact ⟨0, by omega, rfl, Grows.refl _, .inl ⟨rfl, rfl⟩⟩
  case round =>
    obtain ⟨k, hk, rfl, hgr, hrow⟩ := hrel
    have hszr := hgr.size
    by_cases hlt : k < 4
    · have HF := Lib.hid (four_take z k hlt)
      have hb2 : (UInt8.ofNat (z / 2 ^ (8 * k))).toNat = z / 2 ^ (8 * k) % 256 := by simp
      have hnew := Lies.new wr 5 [bv (UInt8.ofNat (z / 2 ^ (8 * k)))]
      have hga := grows_alloc wr (.cells ([bv (UInt8.ofNat (z / 2 ^ (8 * k)))] : List Value).toArray 5)
      have hw8 : IntKind.i64.wrap (8 * (k : Int)) = 8 * (k : Int) := IntWalk.i64_in _ (by omega)
      rcases hrow with ⟨hk0, rfl⟩ | ⟨hkp, hown⟩
      · have HK := Lib.hid hk0
        have hlr := hr.later (Grows.trans hgr hga)
        have hnl : (l.map bv).length = n * 1 := by rw [List.length_map, HL.out, Nat.mul_one]
        clear hk0
        go_wp2_with (at_builtin; refine wpList_append_grows _ rfl (.tmp 9) (.tmp 15) 22 rfl 5 i0 _ 1 1 Tryd.underlying22 hi0 hz0 hz1 hz2 rfl (by decide) (some ad) n n (l.map bv) rfl (fun h => by cases h) hnl (fun b hb => by injection hb with hb; subst hb; exact hlr.cells) ⟨wr.heap.size, 0, none⟩ 1 1 [bv (UInt8.ofNat (z / 2 ^ (8 * k)))] rfl rfl hnew.cells (by simp [Value.oneCell']) (by omega) (by unfold maxLen; omega) (by omega) ?_; intro v' w' hown' hg')
        have hg3 : Grows wr w' := Grows.trans hga ((Turns.of_by (S := fun _ => False) hg' (fun g e _ => by cases e)).grows (fun _ _ h => h))
        rw [show [bv (UInt8.ofNat (z / 2 ^ (8 * k)))] = [UInt8.ofNat (z / 2 ^ (8 * k))].map bv from rfl, ← List.map_append] at hown'
        have hown2 := own_base hown' (show w.heap.size ≤ _ by rw [World.size_alloc]; omega)
        have hF : l ++ [UInt8.ofNat (z / 2 ^ (8 * k))] = l ++ (fourC z).take (k + 1) := by rw [HF.out, HK.out]; simp
        rw [hF] at hown2
        go_roundw
        case rel => exact ⟨k + 1, by omega, by go_num, Grows.trans hgr hg3, .inr ⟨by omega, by rw [show n + (k + 1) = n + 1 by rw [HK.out]]; exact hown2⟩⟩
        case measure => simp [intOf]; omega
      · go_wp2_with (at_builtin; refine wpList_append_src _ rfl (.tmp 9) (.tmp 15) _ rfl w.heap.size 5 i0 _ 1 Tryd.underlying22 hi0 hz0 hz1 hz2 rfl _ (n + k) _ rfl (hown.alloc _) _ _ 1 1 [bv (UInt8.ofNat (z / 2 ^ (8 * k)))] rfl rfl hnew (by simp [Value.oneCell']) (by unfold maxLen; omega) (by omega) (by rw [World.size_alloc]; omega) ?_; intro v' w' hown' hg' hat')
        have hb3 : Grows w w' := Below.grown (Grows.trans hgr hga) hg' (by rw [World.size_alloc]; omega) (own_ge hown)
        rw [show [bv (UInt8.ofNat (z / 2 ^ (8 * k)))] = [UInt8.ofNat (z / 2 ^ (8 * k))].map bv from rfl, ← List.map_append, List.append_assoc, ← HF.out] at hown'
        go_roundw
        case rel => exact ⟨k + 1, by omega, by go_num, hb3, .inr ⟨by omega, hown'⟩⟩
        case measure => simp [intOf]; omega
    · obtain rfl : k = 4 := by omega
      rcases hrow with ⟨hk0, _⟩ | ⟨_, hown⟩
      · omega
      · go_wp2
        go_ret
        rw [List.take_of_length_le (by rw [four_len]; exact Nat.le_refl _)] at hown
        exact ⟨_, rfl, hown, hgr⟩
end Go.Proofs.YtnokloedbckijaaDoor

/-
  Contract of index.Write.
-/
namespace Go.Proofs.YtnokloedbckijaaDoor
open Go.RowKit
set_option linter.unusedVariables false
set_option maxRecDepth 20000

theorem xc_img {x : Ixd} (A : Option Addr) (c : Nat) {j : Nat} {u : Value} (h : (x.im.map bv)[j]? = some u) : (xcells x A c)[3 + j]? = some u := by
  unfold xcells
  rw [List.getElem?_append_right (by simp), List.getElem?_append_left (by have := (List.getElem?_eq_some_iff.1 h).1; simp at this ⊢; omega)]
  simpa using h
theorem ic_name {it : Itm} {j : Nat} {u : Value} (h : (it.1.map bv)[j]? = some u) : (icells it)[j]? = some u := by
  unfold icells
  rw [List.getElem?_append_left (List.getElem?_eq_some_iff.1 h).1]; exact h
theorem Recs.turned {w w' : World} {A : Option Addr} {k : Nat} {rs : List (List Value)} {S : Nat → Prop} (h : Recs w A k rs) {B : Nat} (hB : Lies w B A rs.flatten) (ht : Turns S w w') (hS : ∀ k, k < B → ¬ S k) : Recs w' A k rs :=
  ⟨h.each, fun j u hu => by obtain ⟨ad, e, hb, hc⟩ := hB j u hu; have h1 := World.block_lt_of_cell? w _ hc; rw [add_block] at h1; exact ⟨ad, e, Nat.lt_of_lt_of_le h1 ht.size, ht.cell hc (by rw [add_block]; exact hS _ hb)⟩⟩
theorem mark_bytes (w : World) : Lies (w.alloc (.cells #[.int .u8 76, .int .u8 84, .int .u8 73, .int .u8 49] 5 (4, 5))) (w.heap.size + 1) (some ⟨w.heap.size, 0, none⟩) (([76, 84, 73, 49] : List UInt8).map bv) ∧
    Grows w (w.alloc (.cells #[.int .u8 76, .int .u8 84, .int .u8 73, .int .u8 49] 5 (4, 5))) := ⟨fun j u hu => ⟨_, rfl, by show w.heap.size < w.heap.size + 1; omega, by
    rw [add_plain, Nat.zero_add]
    have : (w.alloc (.cells #[.int .u8 76, .int .u8 84, .int .u8 73, .int .u8 49] 5 (4, 5))).heap[w.heap.size]? = some (.cells #[.int .u8 76, .int .u8 84, .int .u8 73, .int .u8 49] 5 (4, 5)) := World.alloc_heap_new w _
    unfold World.cell?
    rw [this]
    match j, hu with
    | 0, hu => exact hu
    | 1, hu => exact hu
    | 2, hu => exact hu
    | 3, hu => exact hu⟩, (Grows.refl w).alloc (Nat.le_refl _) _⟩

set_option maxHeartbeats 4000000 in
theorem write_no (x : Ixd) (A : Option Addr) (c : Nat) (w : World) (hx : x.Ok) (hI : Recs w A 33 (x.its.map icells)) (hn : x.its.length ≤ maxLen) (hM : ¬ IMay x) :
    Calls Tryd.prog 34 #[xval x A c] w fun e w' => e = .returned (.tuple #[.slice none 0 0, .int .i64 1]) ∧ Grows w w' := by
  have hb := Has.new w 44 (xcells x A c)
  have hg0 := grows_alloc w (.cells (xcells x A c).toArray 44)
  have hvl := xcells_len hx.im A c
  have MM := Lib.hid (fun u (h : Recs u A 33 (x.its.map icells)) => by have := imay_any x A c u hx h hn; rw [mayI_false hM] at this; exact this : ∀ u, Recs u A 33 (x.its.map icells) → Calls Tryd.prog 25 #[xval x A c] u fun e w' => e = .returned (.bool false) ∧ Grows u w')
  unfold xval at *
  generalize xcells x A c = vs at *
  have ldw := hb.load Tryd.underlying44 rfl (by rw [hvl]; exact ix_size)
  have hI1 := hI.later hg0
  go_enter Tryd.func34, Tryd.ntmps34
  go_wp2_with (with_reducible refine wpList_loads rfl 44 (.tmp 1) rfl _ rfl _ ldw ?_)
  refine (MM.out _ hI1).mono ?_
  rintro e w1 ⟨rfl, hg1⟩
  go_wp2_with fail
  go_ret2
  exact ⟨rfl, Grows.trans hg0 hg1⟩

set_option maxHeartbeats 8000000 in
theorem write_ok (x : Ixd) (A : Option Addr) (c : Nat) (w : World) (hx : x.Ok) (hI : Recs w A 33 (x.its.map icells)) (hM : IMay x) :
    Calls Tryd.prog 34 #[xval x A c] w fun e w' => ∃ v, e = .returned (.tuple #[v, .int .i64 0]) ∧ w'.ownsRow w.heap.size 5 1 v (ixAll x).length ((ixAll x).map bv) ∧ Grows w w' := by
  have hb := Has.new w 44 (xcells x A c)
  have hg0 := grows_alloc w (.cells (xcells x A c).toArray 44)
  have hvl := xcells_len hx.im A c
  have hfew := hM.few
  have MM := Lib.hid (fun u (h : Recs u A 33 (x.its.map icells)) => by have := imay_any x A c u hx h (by unfold maxLen; omega); rw [mayI_true hM] at this; exact this : ∀ u, Recs u A 33 (x.its.map icells) → Calls Tryd.prog 25 #[xval x A c] u fun e w' => e = .returned (.bool true) ∧ Grows u w')
  have hp := mayZ_iff.1 hM.prm
  obtain ⟨na, hna⟩ : ∃ na : Nat, x.a = (na : Int) := ⟨x.a.toNat, by omega⟩
  obtain ⟨nb, hnb⟩ : ∃ nb : Nat, x.b = (nb : Int) := ⟨x.b.toNat, by omega⟩
  obtain ⟨nc, hnc⟩ : ∃ nc : Nat, x.c = (nc : Int) := ⟨x.c.toNat, by omega⟩
  have h35 := xc_its hx.im A c
  have h0 : (xcells x A c)[0]? = some (.int .i64 (na : Int)) := by rw [← hna]; rfl
  have h1 : (xcells x A c)[1]? = some (.int .i64 (nb : Int)) := by rw [← hnb]; rfl
  have h2 : (xcells x A c)[2]? = some (.int .i64 (nc : Int)) := by rw [← hnc]; rfl
  have him : ∀ j u, (x.im.map bv)[j]? = some u → (xcells x A c)[3 + j]? = some u := fun j u h => xc_img A c h
  have hsz := hM.sizes
  have hits := hx.its
  have himl := hx.im
  have hHead : Hid (headBytes x = [76, 84, 73, 49] ++ fourC na ++ fourC nb ++ fourC nc ++ x.im ++ fourC x.its.length) := by show _ = _; unfold headBytes; rw [hna, hnb, hnc]; rfl
  have hHL : (headBytes x).length = 52 := headBytes_len himl
  unfold ixAll ixBytes
  have hb1 : na < 4294967296 := by omega
  have hb2 : nb < 4294967296 := by omega
  have hb3 : nc < 4294967296 := by omega
  have hcc : x.c ≤ 4096 := by omega
  have haa : 1 ≤ x.a := by omega
  unfold xval at *
  generalize xcells x A c = vs at *
  generalize headBytes x = hd at *
  generalize x.im = im at *
  generalize x.its = l at *
  obtain ⟨N, hN⟩ : ∃ N, N = l.length := ⟨_, rfl⟩
  rw [← hN] at hfew h35 hHead
  have HN := Lib.hid hN
  have hsz : ∀ it ∈ l, 1 ≤ it.2 ∧ it.2 ≤ 4096 := fun it hi => by
    obtain ⟨j, hj⟩ := List.mem_iff_getElem?.1 hi
    obtain ⟨u1, u2, _⟩ := hsz j it hj
    exact ⟨u1, by omega⟩
  clear hN hna hnb hnc hp hcc haa hM
  have ldw := hb.load Tryd.underlying44 rfl (by rw [hvl]; exact ix_size)
  have hI1 := hI.later hg0
  have hIl := hI.lies
  have hcv := fun (u : World) => Lib.run_convert_bytes_const (P := Tryd.prog) u 22 5 #[.int .u8 76, .int .u8 84, .int .u8 73, .int .u8 49] 4 4 Tryd.underlying22 Tryd.underlying5
  obtain ⟨i0, hi0, hz0, hz1, hz2⟩ := info_parts byte_info
  go_enter Tryd.func34, Tryd.ntmps34
  go_wp2_with (with_reducible refine wpList_loads rfl 44 (.tmp 1) rfl _ rfl _ ldw ?_)
  refine (MM.out _ hI1).mono ?_
  rintro e w1 ⟨rfl, hg1⟩
  have hb1' := hb.later hg1
  have hg01 := Grows.trans hg0 hg1
  have hI2 := hI1.later hg1
  have hbb := hb1'.lt
  obtain ⟨hmk, hga⟩ := mark_bytes w1
  have hb2' := hb1'.later hga
  have hg02 := Grows.trans hg01 hga
  have hI3 := hI2.later hga
  have P0 := hb2'.cell h0
  have hmk2 := hmk.mono (B' := (w1.alloc (.cells #[.int .u8 76, .int .u8 84, .int .u8 73, .int .u8 49] 5 (4, 5))).heap.size) (by simp)
  have hszA : w1.heap.size < (w1.alloc (.cells #[.int .u8 76, .int .u8 84, .int .u8 73, .int .u8 49] 5 (4, 5))).heap.size := by simp
  clear ldw hb hI hI1 MM hg0 hmk
  go_wp2_with fail
  clear hcv
  change Calls _ _ _ (w1.alloc (.cells #[.int .u8 76, .int .u8 84, .int .u8 73, .int .u8 49] 5 (4, 5))) _
  generalize w1.alloc (.cells #[.int .u8 76, .int .u8 84, .int .u8 73, .int .u8 49] 5 (4, 5)) = w2 at *
  -- the numbers
  refine (appnum_full ⟨w1.heap.size, 0, none⟩ 4 na [76, 84, 73, 49] w2 rfl hmk2 hb1 (by decide)).mono ?_
  rintro e w3 ⟨v3, rfl, hown3, hg3⟩
  have hb3' := hb2'.later hg3
  have hg03 := Grows.trans hg02 hg3
  have hI4 := hI3.later hg3
  have hbase : w.heap.size < w2.heap.size := by have := hb2'.lt; omega
  obtain ⟨S1, hS1⟩ : ∃ S1, S1 = [76, 84, 73, 49] ++ fourC na := ⟨_, rfl⟩
  rw [← hS1] at hown3
  have P1 := hb3'.cell h1
  have hl1 : S1.length = 8 := by rw [hS1]; simp [four_len]
  obtain ⟨A3, c3, rfl, hc3⟩ := own_form hown3
  have HS1 := Lib.hid hS1
  clear hS1 P0 hb2' hI3
  go_wp2_with fail
  refine (appnum_any w2.heap.size _ 8 nb S1 w3 hl1 hown3 hg3.size hb2 (by decide)).mono ?_
  rintro e w4 ⟨v4, rfl, hown4, ht4⟩
  have hb4' := hb3'.turned ht4 (by omega)
  have hg04 := turns_then_grows hg03 ht4 (fun k h => by omega)
  have hI5 := hI4.turned (hIl.below hg03) ht4 (fun k h => by omega)
  obtain ⟨S2, hS2⟩ : ∃ S2, S2 = S1 ++ fourC nb := ⟨_, rfl⟩
  rw [← hS2] at hown4
  have P2 := hb4'.cell h2
  have hl2 : S2.length = 12 := by rw [hS2]; simp [four_len, hl1]
  obtain ⟨A4, c4, rfl, hc4⟩ := own_form hown4
  have HS2 := Lib.hid hS2
  clear hS2 P1 hb3' hI4 hown3
  go_wp2_with fail
  refine (appnum_any w2.heap.size _ 12 nc S2 w4 hl2 hown4 (Nat.le_trans hg3.size ht4.size) hb3 (by decide)).mono ?_
  rintro e w5 ⟨v5, rfl, hown5, ht5⟩
  have hb5' := hb4'.turned ht5 (by omega)
  have hg05 := turns_then_grows hg04 ht5 (fun k h => by omega)
  have hI6 := hI5.turned (hIl.below hg04) ht5 (fun k h => by omega)
  obtain ⟨S3, hS3⟩ : ∃ S3, S3 = S2 ++ fourC nc := ⟨_, rfl⟩
  rw [← hS3] at hown5
  have hl3 : S3.length = 16 := by rw [hS3]; simp [four_len, hl2]
  obtain ⟨A5, c5, rfl, hc5⟩ := own_form hown5
  have HS3 := Lib.hid hS3
  have hbase5 : w2.heap.size ≤ w5.heap.size := Nat.le_trans (Nat.le_trans hg3.size ht4.size) ht5.size
  clear hS3 P2 hb4' hI5 hown4
  -- the image's digest
  have himL : Lies w5 w5.heap.size (some ⟨w.heap.size, 3, none⟩) (im.map bv) := fun j u hu => ⟨_, rfl, by have := hb5'.lt; exact this, by rw [add_plain]; exact hb5'.cell (him j u hu)⟩
  go_wp2_with (at_builtin; refine wpList_append_src _ rfl (.tmp 27) (.tmp 29) _ rfl w2.heap.size 5 i0 _ 1 Tryd.underlying22 hi0 hz0 hz1 hz2 rfl _ 16 _ rfl hown5 _ _ 32 32 (im.map bv) rfl (by rw [List.length_map]; exact himl) himL (bv_one im) (by unfold maxLen; omega) (by omega) hbase5 ?_; intro v6 w6 hown6 gq6 hat6; have ht6 : Turns (fun k => w2.heap.size ≤ k) w5 w6 := Turns.of_by gq6 fun g e _ => own_ge hown5 g e; have hb6' := hb5'.turned ht6 (by omega); have Q35 := hb6'.cell h35)
  rw [← List.map_append] at hown6
  have hg06 := turns_then_grows hg05 ht6 (fun k h => by omega)
  have hI7 := hI6.turned (hIl.below hg05) ht6 (fun k h => by omega)
  obtain ⟨S4, hS4⟩ : ∃ S4, S4 = S3 ++ im := ⟨_, rfl⟩
  rw [← hS4] at hown6
  have hl4 : S4.length = 48 := by rw [hS4]; simp [hl3, himl]
  obtain ⟨A6, c6, rfl, hc6⟩ := own_form hown6
  have HS4 := Lib.hid hS4
  have hbase6 := Nat.le_trans hbase5 ht6.size
  clear hS4 hI6 hown5 himL gq6 hat6 hb5'
  refine (appnum_any w2.heap.size _ 48 N S4 w6 hl4 hown6 hbase6 (by omega) (by decide)).mono ?_
  rintro e w7 ⟨v7, rfl, hown7, ht7⟩
  have hb7' := hb6'.turned ht7 (by omega)
  have hg07 := turns_then_grows hg06 ht7 (fun k h => by omega)
  have hI8 := hI7.turned (hIl.below hg06) ht7 (fun k h => by omega)
  have hS5 : S4 ++ fourC N = hd := by rw [hHead.out, HS4.out, HS3.out, HS2.out, HS1.out]
  rw [hS5] at hown7
  obtain ⟨A7, c7, rfl, hc7⟩ := own_form hown7
  have hbase7 := Nat.le_trans hbase6 ht7.size
  have R35 := hb7'.cell h35
  clear Q35 hI7 hown6 hb6' hS5
  go_wp2_with fail
  go_loopw [4, 39] (fun v i wr => ∃ k : Nat, k ≤ N ∧ i = .int .i64 (k : Int) ∧ wr.ownsRow w2.heap.size 5 1 v (52 + 36 * k) ((hd ++ ((l.take k).map itemBytes).flatten).map bv) ∧ Turns (fun k => w2.heap.size ≤ k) w7 wr) (fun _ i _ => N - (intOf i).toNat)
  case atStart => exact ⟨0, Nat.zero_le _, rfl, by simpa using hown7, Turns.refl _ _⟩
  case round =>
    clear hown7
    obtain ⟨k, hk, rfl, hown, htr⟩ := hrel
    obtain ⟨A8, c8, rfl, hc8⟩ := own_form hown
    have hgr := turns_then_grows hg07 htr (fun k h => by omega)
    have hbr := hb7'.turned htr (by omega)
    have hbaser := Nat.le_trans hbase7 htr.size
    by_cases hlt : k < N
    · obtain ⟨it, hit⟩ : ∃ it, l[k]? = some it := ⟨_, List.getElem?_eq_getElem (by rw [← HN.out]; exact hlt)⟩
      have hmem := List.mem_of_getElem? hit
      have hIr := hI8.turned (hIl.below hg07) htr (fun k h => by omega)
      obtain ⟨ad, rfl, _, cx⟩ := hIr.at_ (by decide) (i := k) (r := icells it) (by rw [List.getElem?_map, hit]; rfl)
      obtain ⟨lx, _⟩ := hits it hmem
      obtain ⟨z1, z2⟩ := hsz it hmem
      have HF : Hid ((hd ++ ((l.take (k + 1)).map itemBytes).flatten) = (hd ++ ((l.take k).map itemBytes).flatten) ++ it.1 ++ fourC it.2.toNat) := by show _ = _; rw [flats_take hit, itemBytes]; simp only [List.append_assoc]
      have hic := icells_len lx
      have hio := icells_one it
      have hc32 := ic_size lx
      have hnm : ∀ j u, (it.1.map bv)[j]? = some u → (icells it)[j]? = some u := fun j u h => ic_name h
      have ldk : (Instr.loadAt 61 (.pointer (some (ad.add (k * 33))))).run Tryd.prog wr = .ok (.agg (icells it).toArray) wr :=
        load_any wr _ _ (icells it) _ (fun j v hv => by rw [add_add_addr]; exact cx j v hv) Tryd.underlying61 rfl (by rw [hic]; exact item_size)
      have hR := Has.new wr 61 [.int .u8 0, .int .u8 0, .int .u8 0, .int .u8 0, .int .u8 0, .int .u8 0, .int .u8 0, .int .u8 0, .int .u8 0, .int .u8 0, .int .u8 0, .int .u8 0, .int .u8 0, .int .u8 0, .int .u8 0, .int .u8 0, .int .u8 0, .int .u8 0, .int .u8 0, .int .u8 0, .int .u8 0, .int .u8 0, .int .u8 0, .int .u8 0, .int .u8 0, .int .u8 0, .int .u8 0, .int .u8 0, .int .u8 0, .int .u8 0, .int .u8 0, .int .u8 0, .int .i64 0]
      have hga := grows_alloc wr (.cells ([.int .u8 0, .int .u8 0, .int .u8 0, .int .u8 0, .int .u8 0, .int .u8 0, .int .u8 0, .int .u8 0, .int .u8 0, .int .u8 0, .int .u8 0, .int .u8 0, .int .u8 0, .int .u8 0, .int .u8 0, .int .u8 0, .int .u8 0, .int .u8 0, .int .u8 0, .int .u8 0, .int .u8 0, .int .u8 0, .int .u8 0, .int .u8 0, .int .u8 0, .int .u8 0, .int .u8 0, .int .u8 0, .int .u8 0, .int .u8 0, .int .u8 0, .int .u8 0, .int .i64 0] : List Value).toArray 61)
      have hki : (k : Int) < (N : Int) := by omega
      have hk2 : k < 4096 := by omega
      have hdl : (hd ++ ((l.take k).map itemBytes).flatten).length = 52 + 36 * k := by rw [List.length_append, hHL, flats_len (fun y hy => (hits y (List.mem_of_mem_take hy)).1), List.length_take, ← HN.out, Nat.min_eq_left hk]
      obtain ⟨z, hzz⟩ : ∃ z : Nat, it.2 = (z : Int) := ⟨it.2.toNat, by omega⟩
      have hz4 : z < 4294967296 := by omega
      rw [hzz] at hc32
      rw [hzz, Int.toNat_natCast] at HF
      generalize hd ++ ((l.take k).map itemBytes).flatten = cur at *
      generalize icells it = ic at *
      generalize it.1 = nm at *
      have HDL := Lib.hid hdl
      have htA : Turns (fun k => w2.heap.size ≤ k) wr (wr.alloc (.cells ([.int .u8 0, .int .u8 0, .int .u8 0, .int .u8 0, .int .u8 0, .int .u8 0, .int .u8 0, .int .u8 0, .int .u8 0, .int .u8 0, .int .u8 0, .int .u8 0, .int .u8 0, .int .u8 0, .int .u8 0, .int .u8 0, .int .u8 0, .int .u8 0, .int .u8 0, .int .u8 0, .int .u8 0, .int .u8 0, .int .u8 0, .int .u8 0, .int .u8 0, .int .u8 0, .int .u8 0, .int .u8 0, .int .u8 0, .int .u8 0, .int .u8 0, .int .u8 0, .int .i64 0] : List Value).toArray 61)) := Turns.of_grows hga
      generalize hP : 52 + 36 * k = P at *
      have HP := Lib.hid hP
      have hPb : P ≤ 200000 := by omega
      clear hit hmem cx hzz hdl hP
      go_wp2_with (first | (with_reducible refine wpList_loads rfl 61 (.tmp 41) rfl _ rfl _ ldk ?_) | (refine wpList_storeT rfl 61 (.tmp 6) (.tmp 42) rfl wr.heap.size _ ic 33 rfl rfl hR rfl hic item_size hio ?_; intro w8 hbox8 htb8; have ht8 : Turns (fun k => w2.heap.size ≤ k) wr w8 := htA.trans (htb8.mono fun k _ h => by subst h; exact hbaser); have hown8 := own_turned hown ((Turns.of_grows hga).trans htb8) (fun g hg h => by have := own_lt hown g hg; omega); have hnmL : Lies w8 w8.heap.size (some ⟨wr.heap.size, 0, none⟩) (nm.map bv) := fun j u hu => ⟨_, rfl, hbox8.lt, by rw [add_plain, Nat.zero_add]; exact hbox8.cell (hnm j u hu)⟩) | (at_builtin; refine wpList_append_src _ rfl (.tmp 43) (.tmp 45) _ rfl w2.heap.size 5 i0 _ 1 Tryd.underlying22 hi0 hz0 hz1 hz2 rfl _ P _ rfl hown8 _ _ 32 32 (nm.map bv) rfl (by rw [List.length_map]; exact lx) hnmL (bv_one nm) (by unfold maxLen; omega) (by omega) (Nat.le_trans hbaser ht8.size) ?_; intro v9 w9 hown9 gq9 hat9; have hbx9 := hbox8.turned (Turns.of_by (S := fun k => k ≠ wr.heap.size) gq9 fun g e _ h => by have := own_lt hown g e; omega) (fun h => h rfl); have Z9 := hbx9.cell hc32))
      rw [← List.map_append] at hown9
      have ht9 : Turns (fun k => w2.heap.size ≤ k) wr w9 := ht8.trans (Turns.of_by gq9 fun g e _ => own_ge hown8 g e)
      have hcl : (cur ++ nm).length = P + 32 := by rw [List.length_append, HDL.out, lx]
      refine (appnum_any w2.heap.size _ (P + 32) z (cur ++ nm) w9 hcl hown9 (Nat.le_trans hbaser ht9.size) hz4 (by omega)).mono ?_
      rintro e w10 ⟨v10, rfl, hown10, ht10⟩
      rw [← HF.out] at hown10
      clear hcl hown9 hown8 Z9 hbx9 gq9 hat9 hbox8 hnmL
      go_wp2_with fail
      go_roundw
      case rel => exact ⟨k + 1, by omega, by go_num, by rw [show 52 + 36 * (k + 1) = P + 32 + 4 by rw [← HP.out]; omega]; exact hown10, (htr.trans ht9).trans ht10⟩
      case measure => simp [intOf]; omega
    · obtain rfl : k = N := by omega
      have d1 : decide ((k : Int) < (k : Int)) = false := by simp
      have hall : (hd ++ ((l.take k).map itemBytes).flatten) = hd ++ (l.map itemBytes).flatten := by rw [List.take_of_length_le (by rw [← HN.out]; exact Nat.le_refl _)]
      rw [hall] at hown
      have hln : (hd ++ (l.map itemBytes).flatten).length = 52 + 36 * k := by rw [List.length_append, hHL, flats_len (fun y hy => (hits y hy).1), ← HN.out]
      have HCU : Hid (hd ++ (l.map itemBytes).flatten = hd ++ (l.map itemBytes).flatten) := rfl
      have hLc := Lies.of_own hown
      have PU := Lib.hid (cput_any A8 (52 + 36 * k) c8 (hd ++ (l.map itemBytes).flatten) wr hln hLc (by omega))
      have hk9 : 52 + 36 * k ≤ 200000 := by omega
      have HLN := Lib.hid hln
      clear hall hln hLc
      go_wp2_with fail
      refine PU.out.mono ?_
      rintro e w9 ⟨v9, rfl, hown9, hg9⟩
      go_wp2_with fail
      go_ret2
      exact ⟨v9, rfl, by rw [List.length_append, HLN.out, four_len]; exact own_base hown9 hgr.size, Grows.trans hgr hg9⟩
end Go.Proofs.YtnokloedbckijaaDoor

/-
  The law's example (lives); its as and of.
-/
namespace Go.Proofs.YtnokloedbckijaaDoor
open Go.RowKit
set_option linter.unusedVariables false
set_option maxRecDepth 20000

def p123 : Prm := ⟨1, 2, 3⟩
theorem p123_ok : p123.Ok := ⟨by decide, by decide, by decide, by decide⟩
/-- Where an index's items lie. -/
theorem OwnIt.recs {base : Nat} {w : World} {A : Option Addr} {c : Nat} {l : List Itm} (h : OwnIt base w (.slice A l.length c) l) (ho : ∀ it ∈ l, it.1.length = 32) : Recs w A 33 (l.map icells) :=
  (Recs.of_own (rs := l.map icells) (fun r hr => by obtain ⟨it, hi, rfl⟩ := List.mem_map.1 hr; exact icells_len (ho it hi)) (by decide) (show World.ownsRow _ _ _ _ _ _ _ from h)).1
theorem itemsOf_ok (p : Prm) (b : List UInt8) : ∀ it ∈ itemsOf p b, it.1.length = 32 := fun it hi => by
  obtain ⟨x, _, rfl⟩ := List.mem_map.1 hi
  exact itemOf_ok x
theorem itemsOf_ok2 (p : Prm) (b : List UInt8) (hb : b.length ≤ 1000000) : ∀ it ∈ itemsOf p b, it.1.length = 32 ∧ I64 it.2 := fun it hi => by
  obtain ⟨x, hx, rfl⟩ := List.mem_map.1 hi
  refine ⟨itemOf_ok x, ?_⟩
  have h1 := chunks_flat p b
  have h2 := (List.sublist_flatten_of_mem hx).length_le
  rw [h1] at h2
  unfold I64 itemOf
  dsimp only
  omega
theorem ofI_ok (p : Prm) (hp : p.Ok) (b : List UInt8) (hb : b.length ≤ 1000000) : (ofI p b).Ok := by
  have h1 := hp.mn; have h2 := hp.av; have h3 := hp.mx; have h4 := hp.top
  exact ⟨by unfold I64 ofI; dsimp only; omega, by unfold I64 ofI; dsimp only; omega, by unfold I64 ofI; dsimp only; omega, shaOf_len b, itemsOf_ok2 p b hb⟩
/-- The index of an image that is not too great may be, and its Total is the image's size. -/
theorem total_items (p : Prm) (b : List UInt8) : total (itemsOf p b) = (b.length : Int) := by
  have h1 := congrArg List.length (chunks_flat p b)
  rw [← h1]
  unfold itemsOf
  generalize chunksOf p b = l
  clear h1
  induction l with
  | nil => rfl
  | cons x l ih =>
    simp only [List.map_cons, List.flatten_cons, List.length_append, total, List.sum_cons] at ih ⊢
    rw [ih]
    simp [itemOf]
theorem ofI_may (p : Prm) (hp : p.Ok) (b : List UInt8) (hb : b.length ≤ 65536) (hm : (itemsOf p b).length ≤ 4096) : IMay (ofI p b) := by
  refine ⟨may_ok hp, hm, fun i it hi => ?_, by show total (itemsOf p b) ≤ 65536; rw [total_items]; omega⟩
  have hi' : (itemsOf p b)[i]? = some it := hi
  have hlen : (ofI p b).its.length = (chunksOf p b).length := by show (itemsOf p b).length = _; simp [itemsOf]
  rw [itemsOf, List.getElem?_map] at hi'
  obtain ⟨x, hx, hxe⟩ : ∃ x, (chunksOf p b)[i]? = some x ∧ itemOf x = it := by
    cases h : (chunksOf p b)[i]? with
    | none => rw [h] at hi'; cases hi'
    | some x => rw [h] at hi'; exact ⟨x, rfl, by simpa using hi'⟩
  subst hxe
  have hmem := List.mem_of_getElem? hx
  have h1 := List.length_pos_iff.2 (chunk_ne p b x hmem)
  have h2 := chunk_max hp b x hmem
  have h3 := chunk_min hp b i x hx
  rw [hlen]
  refine ⟨?_, ?_, fun h => ?_⟩
  · show (1 : Int) ≤ (x.length : Int); omega
  · show (x.length : Int) ≤ (p.mx : Int); omega
  · have := h3 h
    show (p.mn : Int) ≤ (x.length : Int); omega

set_option maxHeartbeats 4000000 in
theorem lives11_any (w : World) (hs : Starts w) (hk : Keys w) :
    Calls Tryd.prog 30 #[] w fun e w' => e = .returned (.bool true) ∧ Grows w w' := by
  have OF := Lib.hid (of_ok p123 p123_ok none 0 0 [] w rfl (Nat.le_refl _) Lies.empty hs hk (by decide) (by decide))
  have hpv : pv p123 = .agg #[.int .i64 1, .int .i64 2, .int .i64 3] := rfl
  rw [hpv] at OF
  have hxo := ofI_ok p123 p123_ok [] (by decide)
  have hxm := ofI_may p123 p123_ok [] (by decide) (by decide)
  have hxl := fun A' c' => xcells_len hxo.im A' c'
  have hx1 := fun A' c' => xcells_one (ofI p123 []) A' c'
  have h35 := fun A' c' => xc_its hxo.im A' c'
  have h2 : ∀ A' c', (xcells (ofI p123 []) A' c')[2]? = some (.int .i64 3) := fun A' c' => rfl
  have hln : (ixAll (ofI p123 [])).length = 56 := by
    unfold ixAll
    rw [List.length_append, ixBytes_len hxo, four_len]
    rfl
  have hil : (ofI p123 []).its.length = 0 := rfl
  have hil2 : (itemsOf p123 []).length = 0 := rfl
  rw [hil2] at OF
  have hits : (ofI p123 []).its = itemsOf p123 [] := rfl
  have WR := Lib.hid (fun A' c' u (h : Recs u A' 33 ((ofI p123 []).its.map icells)) => write_ok (ofI p123 []) A' c' u hxo h hxm)
  have hio := itemsOf_ok p123 []
  rw [hits] at WR
  simp only [hil] at h35
  rw [hln] at WR
  unfold xval at *
  generalize hX : (fun A' c' => xcells (ofI p123 []) A' c') = X at *
  have hX' : ∀ A' c', xcells (ofI p123 []) A' c' = X A' c' := fun A' c' => congrFun (congrFun hX A') c'
  simp only [hX'] at *
  clear hX hX' hits hln hil
  generalize ixAll (ofI p123 []) = bys at *
  generalize itemsOf p123 [] = l at *
  have HIL := Lib.hid hil2
  clear hil2 hxo hxm
  go_enter Tryd.func30, Tryd.ntmps30
  go_wp2_with fail
  refine OF.out.mono ?_
  rintro e w1 ⟨A1, c1, rfl, hc1, hown1, hg1⟩
  have hR1 : Recs w1 A1 33 (l.map icells) := by have := hown1; rw [← HIL.out] at this; exact this.recs hio
  have hb1 := Has.new w1 44 zcells
  have hga := grows_alloc w1 (.cells zcells.toArray 44)
  have hxl1 := hxl A1 c1
  have hx11 := hx1 A1 c1
  have h351 := h35 A1 c1
  have h21 := h2 A1 c1
  have WR1 := Lib.hid (WR.out A1 c1)
  generalize X A1 c1 = vs at *
  clear hxl hx1 h35 h2 hpv
  have hsz : w.heap.size ≤ w1.heap.size := hg1.size
  go_wp2_with (first | (refine wpList_storeT rfl 44 (.tmp 1) (.tmp 8) rfl w1.heap.size zcells vs 36 rfl rfl hb1 zcells_len hxl1 ix_size hx11 ?_; intro w2 hbox2 ht2; have ldw := hbox2.load Tryd.underlying44 rfl (by rw [hxl1]; exact ix_size)) | (with_reducible refine wpList_loads rfl 44 (.tmp 1) rfl _ rfl _ ldw ?_))
  have hg2 : Grows w w2 := turns_grow (Grows.trans hg1 hga) ht2 hsz
  have hR2 : Recs w2 A1 33 (l.map icells) := hR1.later (turns_grow hga ht2 (Nat.le_refl _))
  with_reducible refine (WR1.out w2 hR2).mono ?_
  rintro e w3 ⟨v3, rfl, hown3, hg3⟩
  obtain ⟨A3, c3, rfl, hc3⟩ := own_form hown3
  have hbox3 := hbox2.later hg3
  have P35 := hbox3.cell h351
  have P2 := hbox3.cell h21
  clear WR WR1 ldw
  go_wp2_with fail
  go_ret
  exact ⟨rfl, Grows.trans hg2 hg3⟩

/-- An index's value under either name. -/
theorem as_any (x : Ixd) (A : Option Addr) (c : Nat) (w : World) (hx : x.im.length = 32) :
    Calls Tryd.prog 23 #[xval x A c] w fun e w' => e = .returned (xval x A c) ∧ Grows w w' := by
  have hb := Has.new w 44 (xcells x A c)
  have g1 := grows_alloc w (.cells (xcells x A c).toArray 44)
  have hX := Has.new (w.alloc (.cells (xcells x A c).toArray 44)) 49 zcells
  have g2 := grows_alloc (w.alloc (.cells (xcells x A c).toArray 44)) (.cells zcells.toArray 49)
  rw [World.size_alloc] at hX
  have hb2 := hb.later g2
  have hg := Grows.trans g1 g2
  have BX := build_rx x A c hx
  have hxl := xcells_len hx A c
  have hx1 := xcells_one x A c
  have h35 := xc_its hx A c
  have h0 : (xcells x A c)[0]? = some (.int .i64 x.a) := rfl
  have h1 : (xcells x A c)[1]? = some (.int .i64 x.b) := rfl
  have h2 : (xcells x A c)[2]? = some (.int .i64 x.c) := rfl
  have him : ∀ j u, (x.im.map bv)[j]? = some u → (xcells x A c)[3 + j]? = some u := fun j u h => xc_img A c h
  unfold xval at *
  generalize xcells x A c = vs at *
  have ldi : (Instr.loadAt 42 (.pointer (some ⟨w.heap.size, 3, none⟩))).run Tryd.prog ((w.alloc (.cells vs.toArray 44)).alloc (.cells zcells.toArray 49)) = .ok (dv x.im) ((w.alloc (.cells vs.toArray 44)).alloc (.cells zcells.toArray 49)) :=
    range_load (o := 3) (fun j u h => hb2.cell (him j u h)) Tryd.underlying42 rfl (by rw [List.length_map, hx]; exact dig_size2)
  have P0 := hb2.cell h0
  have P1 := hb2.cell h1
  have P2 := hb2.cell h2
  have P35 := hb2.cell h35
  go_enter Tryd.func23, Tryd.ntmps23
  go_wp2_with (first | (change wpList _ _ _ _ _ ((w.alloc (.cells vs.toArray 44)).alloc (.cells zcells.toArray 49)); generalize (w.alloc (.cells vs.toArray 44)).alloc (.cells zcells.toArray 49) = w2 at *) | (with_reducible refine wpList_loads rfl 42 (.tmp 5) rfl _ rfl _ ldi ?_) | (refine wpList_build_as rfl 49 _ rfl _ _ BX ?_ ?_; (· go_simp)) | (refine wpList_storeT rfl 49 (.tmp 2) (.tmp 9) rfl (w.heap.size + 1) zcells vs 36 rfl rfl hX zcells_len hxl rx_size hx1 ?_; intro w3 hbox2 ht2))
  refine bodyPost_ret (res_has (vs := vs) Tryd.results23 _ rfl Tryd.underlying49 rfl (by rw [hxl]; exact rx_size) hbox2) rfl ⟨rfl, turns_grow hg ht2 (by omega)⟩
theorem of_any11 (x : Ixd) (A : Option Addr) (c : Nat) (w : World) (hx : x.im.length = 32) :
    Calls Tryd.prog 35 #[xval x A c] w fun e w' => e = .returned (xval x A c) ∧ Grows w w' := by
  have hb := Has.new w 49 (xcells x A c)
  have g1 := grows_alloc w (.cells (xcells x A c).toArray 49)
  have hX := Has.new (w.alloc (.cells (xcells x A c).toArray 49)) 44 zcells
  have g2 := grows_alloc (w.alloc (.cells (xcells x A c).toArray 49)) (.cells zcells.toArray 44)
  rw [World.size_alloc] at hX
  have hb2 := hb.later g2
  have hg := Grows.trans g1 g2
  have BX := build_ix x A c hx
  have hxl := xcells_len hx A c
  have hx1 := xcells_one x A c
  have h35 := xc_its hx A c
  have h0 : (xcells x A c)[0]? = some (.int .i64 x.a) := rfl
  have h1 : (xcells x A c)[1]? = some (.int .i64 x.b) := rfl
  have h2 : (xcells x A c)[2]? = some (.int .i64 x.c) := rfl
  have him : ∀ j u, (x.im.map bv)[j]? = some u → (xcells x A c)[3 + j]? = some u := fun j u h => xc_img A c h
  unfold xval at *
  generalize xcells x A c = vs at *
  have ldi : (Instr.loadAt 42 (.pointer (some ⟨w.heap.size, 3, none⟩))).run Tryd.prog ((w.alloc (.cells vs.toArray 49)).alloc (.cells zcells.toArray 44)) = .ok (dv x.im) ((w.alloc (.cells vs.toArray 49)).alloc (.cells zcells.toArray 44)) :=
    range_load (o := 3) (fun j u h => hb2.cell (him j u h)) Tryd.underlying42 rfl (by rw [List.length_map, hx]; exact dig_size2)
  have P0 := hb2.cell h0
  have P1 := hb2.cell h1
  have P2 := hb2.cell h2
  have P35 := hb2.cell h35
  go_enter Tryd.func35, Tryd.ntmps35
  go_wp2_with (first | (change wpList _ _ _ _ _ ((w.alloc (.cells vs.toArray 49)).alloc (.cells zcells.toArray 44)); generalize (w.alloc (.cells vs.toArray 49)).alloc (.cells zcells.toArray 44) = w2 at *) | (with_reducible refine wpList_loads rfl 42 (.tmp 5) rfl _ rfl _ ldi ?_) | (refine wpList_build_as rfl 44 _ rfl _ _ BX ?_ ?_; (· go_simp)) | (refine wpList_storeT rfl 44 (.tmp 2) (.tmp 9) rfl (w.heap.size + 1) zcells vs 36 rfl rfl hX zcells_len hxl ix_size hx1 ?_; intro w3 hbox2 ht2))
  refine bodyPost_ret (res_has (vs := vs) Tryd.results35 _ rfl Tryd.underlying44 rfl (by rw [hxl]; exact ix_size) hbox2) rfl ⟨rfl, turns_grow hg ht2 (by omega)⟩
end Go.Proofs.YtnokloedbckijaaDoor

/-
  How many chunks there are, if Min is Max (mathematics); index.Of of noughts, in one word.
-/
namespace Go.Proofs.YtnokloedbckijaaDoor
open Go.RowKit
set_option linter.unusedVariables false
set_option maxRecDepth 20000

theorem scan_even {p : Prm} {m : Nat} (h1 : p.mn = m) (h2 : p.mx = m) (hm : 1 ≤ m) (hp : p.Ok) (b : List UInt8) : (scan p [] b).1 = min m b.length := by
  rcases Nat.lt_or_ge b.length m with h | h
  · rw [scan_none p b [] (fun j hj hjl => cut_few hp (by rw [List.nil_append, List.length_take, h1]; omega))]
    show b.length = _
    omega
  · rw [scan_find p b [] m hm h (fun j hj hjl => cut_few hp (by rw [List.nil_append, List.length_take, h1]; omega)) (cut_max (by rw [List.nil_append, List.length_take, h2]; omega))]
    show m = _
    omega
theorem chunks_even {p : Prm} {m : Nat} (h1 : p.mn = m) (h2 : p.mx = m) (hm : 1 ≤ m) (hp : p.Ok) (b : List UInt8) : (chunksOf p b).length = (b.length + m - 1) / m := by
  refine chunks_ind p (C := fun b => (chunksOf p b).length = (b.length + m - 1) / m) ?_ (fun b hb ih => ?_) b.length b (Nat.le_refl _)
  · rw [chunksOf_nil]
    show 0 = (0 + m - 1) / m
    rw [Nat.div_eq_of_lt (by omega)]
  · rw [chunksOf_cons p hb, List.length_cons, ih, List.length_drop, scan_even h1 h2 hm hp]
    have hbl := List.length_pos_iff.2 hb
    rcases Nat.lt_or_ge b.length m with h | h
    · rw [Nat.min_eq_right (by omega), Nat.sub_self, Nat.div_eq_of_lt (by omega)]
      have : b.length + m - 1 = (b.length - 1) + m := by omega
      rw [this, Nat.add_div_right _ (by omega), Nat.div_eq_of_lt (by omega)]
    · rw [Nat.min_eq_left h]
      have : b.length + m - 1 = (b.length - m + m - 1) + m := by omega
      rw [this, Nat.add_div_right _ (by omega)]
theorem items_len (p : Prm) (b : List UInt8) : (itemsOf p b).length = (chunksOf p b).length := by simp [itemsOf]

theorem zcells35 : zcells[35]? = some (.slice none 0 0) := xc_its (x := zeroI) (by simp [zeroI]) none 0
/-- Of, in one word, for the law that asks how great an image may be. -/
theorem of_great (p : Prm) (hp : p.Ok) (A : Option Addr) (n c : Nat) (bs : List UInt8) (w : World) (hl : bs.length = n) (hnc : n ≤ c) (hr : Lies w w.heap.size A (bs.map bv)) (hs : Starts w) (hk : Keys w) (hn : n ≤ 1000000) :
    Calls Tryd.prog 21 #[.slice A n c, pv p] w fun e w' => ∃ (vs : List Value) (er : Int) (N : Nat), e = .returned (.tuple #[.agg vs.toArray, .int .i64 er]) ∧ Grows w w' ∧ vs.length = 36 ∧ (∀ u ∈ vs, u.oneCell' = true) ∧ (∃ A c, vs[35]? = some (.slice A N c)) ∧
      ((er = 0 ∧ n ≤ 65536 ∧ (itemsOf p bs).length ≤ 4096 ∧ N = (itemsOf p bs).length ∧ ∀ u, Grows w' u → Calls Tryd.prog 26 #[.agg vs.toArray] u fun e u' => e = .returned (.int .i64 (n : Int)) ∧ Grows u u') ∨
        (er = 3 ∧ ¬ (n ≤ 65536 ∧ (itemsOf p bs).length ≤ 4096) ∧ N = 0)) := by
  by_cases h : n ≤ 65536 ∧ (itemsOf p bs).length ≤ 4096
  · obtain ⟨h1, h2⟩ := h
    refine (of_ok p hp A n c bs w hl hnc hr hs hk h1 h2).mono ?_
    rintro e w' ⟨A', c', rfl, hc, hown, hg⟩
    have hxo := ofI_ok p hp bs (by omega)
    refine ⟨xcells (ofI p bs) A' c', 0, _, rfl, hg, xcells_len hxo.im A' c', xcells_one _ A' c', ⟨A', c', xc_its hxo.im A' c'⟩, .inl ⟨rfl, h1, h2, rfl, fun u hu => ?_⟩⟩
    have hR := (OwnIt.recs hown (itemsOf_ok p bs)).later hu
    have := total_any (ofI p bs) A' c' u hxo.im (fun it hi => (hxo.its it hi).1) hR (fun it hi => ?_) (by show (itemsOf p bs).length ≤ _; omega)
    · rw [show total (ofI p bs).its = (n : Int) by rw [← hl]; exact total_items p bs] at this
      exact this
    · obtain ⟨j, hj⟩ := List.mem_iff_getElem?.1 hi
      obtain ⟨u1, u2, _⟩ := (ofI_may p hp bs (by omega) h2).sizes j it hj
      have h4 := hp.top
      have h5 : (ofI p bs).c = (p.mx : Int) := rfl
      exact ⟨u1, by omega⟩
  · refine (of_no p hp A n c bs w hl hnc hr hs hk hn (by omega)).mono ?_
    rintro e w' ⟨rfl, hg⟩
    exact ⟨zcells, 3, 0, rfl, hg, zcells_len, zcells_one, ⟨none, 0, zcells35⟩, .inr ⟨rfl, h, rfl⟩⟩
end Go.Proofs.YtnokloedbckijaaDoor
